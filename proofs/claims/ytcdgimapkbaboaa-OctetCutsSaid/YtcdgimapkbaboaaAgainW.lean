/-
  docketlaw1.again: a step is taken by the reader.
-/
import Derived.Test.YtcdgimapkbaboaaLaysW
import Derived.Test.YtcdgimapkbaboaaRowW
namespace Go.Proofs.Ytcdgimapkbaboaa.AgainW
open Go.RowKit Mem RowW PutW TakeW FlagW ReaderW ReadB ReadT ReadD ReadG StrW RawW TextsW DigW ForthL LaysW OpenOp
set_option linter.unusedVariables false
set_option linter.unusedSimpArgs false

/-- what was answered is laid again: news, by whatever writer there was before -/
def LaysOk (w : World) (B : Nat) (L : List Value) (news : List UInt8) : Prop :=
  ∀ (w' : World) (b : Nat) (v : Value) (l : List UInt8), Upd (fun k => k < B) w w' → Wr w' b v l → b < B → (∀ k, own v k → k < B) → l.length + news.length ≤ 140737488355000 →
    Calls Try.prog 37 #[.pointer (some ⟨b, 0, none⟩), .agg L.toArray] w' fun e w'' => e = .returned (.bool true) ∧ Grew b v l news w' w''
theorem cat_at : ∀ (ds : List (List UInt8)) (i j : Nat), (∀ d ∈ ds, d.length = 32) → i < ds.length → j < 32 → (cat ds)[i * 32 + j]? = (ds.getD i [])[j]?
  | [], i, _, _, hi, _ => absurd hi (Nat.not_lt_zero _)
  | d :: ds, 0, j, h, _, hj => by
    have hd := h d (List.mem_cons_self ..)
    show (d ++ cat ds)[0 * 32 + j]? = _
    rw [Nat.zero_mul, Nat.zero_add, List.getElem?_append_left (by omega)]
    rfl
  | d :: ds, i + 1, j, h, hi, hj => by
    have hd := h d (List.mem_cons_self ..)
    show (d ++ cat ds)[(i + 1) * 32 + j]? = _
    rw [List.getElem?_append_right (by omega), hd, show (i + 1) * 32 + j - 32 = i * 32 + j by omega, cat_at ds i j (fun x hx => h x (List.mem_cons_of_mem _ hx)) (by simpa using hi) hj]
    rfl
/-- digests in memory of their own -/
theorem dgl_own {w : World} {b : Nat} {ao : Option Addr} {cap : Nat} {ds : List (List UInt8)} (h : w.ownsRow b 73 32 (.slice ao ds.length cap) ds.length ((cat ds).map u8)) (h32 : ∀ d ∈ ds, d.length = 32) : DgL w (.slice ao ds.length cap) ds (own (.slice ao ds.length cap)) := by
  have h' := h
  obtain ⟨hlen, h0 | ⟨g, cap', cur, hv, _, hrow, hle, hm, hsz, htake⟩⟩ := h
  · obtain ⟨hv, hn⟩ := h0
    obtain rfl : ds = [] := List.eq_nil_of_length_eq_zero hn
    injection hv with e1 e2 e3
    subst e1 e3
    exact ⟨none, 0, rfl, Nat.zero_le _, Nat.zero_le _, (fun d hd => by cases hd), (fun _ => rfl), (fun a ha => by cases ha)⟩
  · injection hv with e1 e2 e3
    subst e1 e3
    refine ⟨_, cap, rfl, hle, hm, h32, (fun h => by cases h), fun a ha => ?_⟩
    injection ha with ha
    subst ha
    refine ⟨rfl, fun _ => rfl, fun i hi j u hu => ?_⟩
    have hd : (ds.getD i []).length = 32 := by
      rw [List.getD_eq_getElem?_getD, List.getElem?_eq_getElem hi]
      exact h32 _ (List.getElem_mem hi)
    have hj : j < 32 := by have := (List.getElem?_eq_some_iff.1 hu).1; rw [List.length_map] at this; omega
    have h2 := h'.cells (g := g) rfl (i * 32 + j) u (by rw [List.getElem?_map, cat_at ds i j h32 hi hj, ← List.getElem?_map]; exact hu)
    rw [OpenOp.add_none, Nat.zero_add] at h2
    rw [Nat.zero_add]
    exact h2
theorem strl_own {w : World} {b : Nat} {ao : Option Addr} {cap : Nat} {ss : List ByteArray} (h : w.ownsRow b 9 1 (.slice ao ss.length cap) ss.length (ss.map .string)) (hm : ∀ s ∈ ss, s.size ≤ 65535) : StrL w (.slice ao ss.length cap) ss := by
  have h' := h
  obtain ⟨hlen, h0 | ⟨g, cap', cur, hv, _, hrow, hle, hmm, hsz, htake⟩⟩ := h
  · obtain ⟨hv, hn⟩ := h0
    obtain rfl : ss = [] := List.eq_nil_of_length_eq_zero hn
    injection hv with e1 e2 e3
    subst e1 e3
    exact ⟨none, 0, rfl, (fun _ => rfl), (fun d hd => by cases hd), (fun a ha => by cases ha)⟩
  · injection hv with e1 e2 e3
    subst e1 e3
    refine ⟨_, cap, rfl, (fun h => by cases h), (fun s hs => by have := hm s hs; unfold maxLen; omega), fun a ha => ?_⟩
    injection ha with ha
    subst ha
    refine ⟨rfl, fun i hi => h'.cells (g := g) rfl i _ ?_⟩
    rw [List.getElem?_map, List.getD_eq_getElem?_getD, List.getElem?_eq_getElem hi]
    rfl
def AgainAt (kind most each many : Int) (r : Nat) (rv : Value) (l : List UInt8) (s : Nat × Int) (w : World) (e : Ending) (w' : World) : Prop :=
  ∃ L : List Value, e = .returned (.agg L.toArray) ∧ L.length = 12 ∧ L.all (·.oneCell') = true ∧ Rd w' r rv l (stepM kind most each many l s) ∧ Upd (fun k => k = r) w w' ∧
    ∀ a, s = (a, 0) → (stepM kind most each many l s).2 = 0 → ∃ a', stepM kind most each many l s = (a', 0) ∧ a ≤ a' ∧ a' ≤ l.length ∧ LaysOk w' w.heap.size L (seg l a (a' - a))
def ZO : Array Value := #[.int .i64 0, .int .i64 0, .int .u64 0, .int .i64 0, .bool false, .slice none 0 0, .slice none 0 0, .slice none 0 0, .string ⟨#[]⟩, .slice none 0 0, .int .i64 0, .int .i64 0]
theorem zeroO (w : World) : (zeroValue 54).run Try.prog w = .ok (.agg ZO) w := by kernel_rfl
theorem sizeO : (Try.prog.info? 54).map (·.size) = some 12 := by kernel_rfl
/-- an Op that bears numbers alone -/
def base (k many most each : Int) : List Value := [.int .i64 k, .int .i64 0, .int .u64 0, .int .i64 many, .bool false, .slice none 0 0, .slice none 0 0, .slice none 0 0, .string ⟨#[]⟩, .slice none 0 0, .int .i64 most, .int .i64 each]
theorem built_base (k many most each : Int) : Try.prog.built 54 [(0, .int .i64 k), (10, .int .i64 most), (11, .int .i64 each), (3, .int .i64 many)] = some (base k many most each).toArray := by kernel_rfl
theorem set_base (k many most each : Int) : ((((ZO.setIfInBounds 0 (.int .i64 k)).setIfInBounds 10 (.int .i64 most)).setIfInBounds 11 (.int .i64 each)).setIfInBounds 3 (.int .i64 many)) = (base k many most each).toArray := rfl
theorem base_one (k many most each : Int) : (base k many most each).all (·.oneCell') = true := rfl
theorem set_one {L : List Value} {j : Nat} {v : Value} (h : L.all (·.oneCell') = true) (hv : v.oneCell' = true) : (L.set j v).all (·.oneCell') = true := by
  rw [List.all_eq_true] at h ⊢
  intro x hx
  rcases List.mem_or_eq_of_mem_set hx with h1 | h1
  · exact h x h1
  · rw [h1]; exact hv
theorem step_eq {W : Nat} {l : List UInt8} {a : Nat} (h : (takeM W l (a, 0)).2.2 = 0) : ∃ a', (takeM W l (a, 0)).2 = (a', 0) ∧ a ≤ a' ∧ a' ≤ l.length ∧ be ((takeM W l (a, 0)).1 : Int) W = seg l a (a' - a) := by
  obtain ⟨h1, _, _, h4, h5, h6⟩ := went_take W l a h
  exact ⟨_, h1, h4, h5, h6⟩

set_option maxHeartbeats 4000000 in
set_option maxRecDepth 100000 in
theorem again_1 (r : Nat) (rv : Value) (l : List UInt8) (s : Nat × Int) (cs : List Value) (many most each : Int) (w : World) (hr : Rd w r rv l s) (hl : l.length ≤ 140737488351232) (hcs : OpC cs (1, many, most, each)) :
    Calls Try.prog 39 #[.pointer (some ⟨r, 0, none⟩), .agg cs.toArray] w (AgainAt 1 most each many r rv l s w) := by
  have hrb : r < w.heap.size := lt_of_block hr.1
  have hvb : ∀ k, own rv k → k < w.heap.size := fun k hk => (hr.2.1.lt k hk).2
  obtain ⟨X, hX⟩ : ∃ X, X = cs.toArray := ⟨_, rfl⟩
  obtain ⟨w1, hw1⟩ : ∃ x, x = w.alloc (.cells X 54) := ⟨_, rfl⟩
  obtain ⟨w2, hw2⟩ : ∃ x, x = w1.alloc (.cells ZO 54) := ⟨_, rfl⟩
  obtain ⟨w3, hw3⟩ : ∃ x, x = w2.alloc (.cells ZO 54) := ⟨_, rfl⟩
  have hs1 : w1.heap.size = w.heap.size + 1 := by rw [hw1]; simp
  have hs2 : w2.heap.size = w.heap.size + 1 + 1 := by rw [hw2]; simp; omega
  have hs3 : w3.heap.size = w.heap.size + 3 := by rw [hw3]; simp; omega
  have hrow : w1.heap[w.heap.size]? = some (.cells cs.toArray 54 (0, 0)) := by rw [hw1, hX]; exact heap_alloc_new w _
  have hcell : ∀ i x, cs[i]? = some x → w1.cell? ⟨w.heap.size, i, none⟩ = some x := fun i x h => by rw [cell_of_row _ _ _ _ _ _ hrow]; simpa using h
  have hu01 : Upd (fun _ => False) w w1 := by rw [hw1]; exact (Upd.refl _ w).alloc _
  have hu12 : Upd (fun _ => False) w1 w2 := by rw [hw2]; exact (Upd.refl _ w1).alloc _
  have hu23 : Upd (fun _ => False) w2 w3 := by rw [hw3]; exact (Upd.refl _ w2).alloc _
  have hu13 : Upd (fun _ => False) w1 w3 := hu12.trans (hu23.mono (fun _ _ e => e.elim))
  have b0 : w2.cell? ⟨w.heap.size, 0, none⟩ = some (.int .i64 1) := hu12.cell (hcell 0 _ hcs.c0) id
  have b3 : w2.cell? ⟨w.heap.size, 3, none⟩ = some (.int .i64 many) := hu12.cell (hcell 3 _ hcs.c3) id
  have b10 : w2.cell? ⟨w.heap.size, 10, none⟩ = some (.int .i64 most) := hu12.cell (hcell 10 _ hcs.c10) id
  have b11 : w2.cell? ⟨w.heap.size, 11, none⟩ = some (.int .i64 each) := hu12.cell (hcell 11 _ hcs.c11) id
  have HB0 : Hid (∀ w', Upd (fun k => w.heap.size < k) w1 w' → w'.cell? ⟨w.heap.size, 0, none⟩ = some (.int .i64 1)) := fun w' hu => hu.cell (hcell 0 _ hcs.c0) (by simp)
  have HB3 : Hid (∀ w', Upd (fun k => w.heap.size < k) w1 w' → w'.cell? ⟨w.heap.size, 3, none⟩ = some (.int .i64 many)) := fun w' hu => hu.cell (hcell 3 _ hcs.c3) (by simp)
  have HB10 : Hid (∀ w', Upd (fun k => w.heap.size < k) w1 w' → w'.cell? ⟨w.heap.size, 10, none⟩ = some (.int .i64 most)) := fun w' hu => hu.cell (hcell 10 _ hcs.c10) (by simp)
  have HB11 : Hid (∀ w', Upd (fun k => w.heap.size < k) w1 w' → w'.cell? ⟨w.heap.size, 11, none⟩ = some (.int .i64 each)) := fun w' hu => hu.cell (hcell 11 _ hcs.c11) (by simp)
  have HZ3 : Hid (w3.heap[w.heap.size + 1 + 1]? = some (.cells ZO 54 (0, 0))) := by show _ = _; rw [← hs2, hw3]; exact heap_alloc_new w2 _
  have HY3 : Hid (w3.heap[w.heap.size + 1]? = some (.cells ZO 54 (0, 0))) := by
    have h : w2.heap[w.heap.size + 1]? = some (.cells ZO 54 (0, 0)) := by rw [← hs1, hw2]; exact heap_alloc_new w1 _
    exact (hu23.block _ (by omega) id).trans h
  obtain ⟨BL, hBL⟩ : ∃ x, x = base 1 many most each := ⟨_, rfl⟩
  have hBA : ((((ZO.setIfInBounds 0 (.int .i64 1)).setIfInBounds 10 (.int .i64 most)).setIfInBounds 11 (.int .i64 each)).setIfInBounds 3 (.int .i64 many)) = BL.toArray := by rw [hBL]; exact set_base 1 many most each
  have HBs : Hid ((Try.prog.info? 54).map (·.size) = some (((((ZO.setIfInBounds 0 (.int .i64 1)).setIfInBounds 10 (.int .i64 most)).setIfInBounds 11 (.int .i64 each)).setIfInBounds 3 (.int .i64 many))).size) := by show _ = _; rw [hBA, sizeO, hBL]; rfl
  have HBl : Hid (ZO.size = (((((ZO.setIfInBounds 0 (.int .i64 1)).setIfInBounds 10 (.int .i64 most)).setIfInBounds 11 (.int .i64 each)).setIfInBounds 3 (.int .i64 many))).size) := by show _ = _; rw [hBA, hBL]; rfl
  have HB1 : Hid ((((((ZO.setIfInBounds 0 (.int .i64 1)).setIfInBounds 10 (.int .i64 most)).setIfInBounds 11 (.int .i64 each)).setIfInBounds 3 (.int .i64 many))).all (·.oneCell') = true) := by show _ = _; rw [hBA, hBL]; simpa using base_one 1 many most each
  have HBA := Lib.hid hBA
  have HBLe := Lib.hid hBL
  have Hr := Lib.hid hr
  have Hl := Lib.hid hl
  have Hrb := Lib.hid hrb
  have Hvb := Lib.hid hvb
  have Hs3 := Lib.hid hs3
  have HU13 : Hid (Upd (fun k => w.heap.size < k) w1 w3) := hu13.mono (fun _ _ e => e.elim)
  have HU03 : Hid (Upd (fun _ => False) w w3) := hu01.trans (hu13.mono (fun _ _ e => e.elim))
  have hz := zeroO
  rw [← hX]
  subst hw3
  subst hw2
  subst hw1
  clear hX hs1 hs2 hs3 hrow hcell hu01 hu12 hu23 hu13 hcs hBL hBA hr hl hrb hvb
  go_enter Try.func39, Try.ntmps39
  go_wp2_with (first
    | ((with_reducible refine wpList_store_new (o := ⟨none, .store 54 (.tmp 5) (.tmp 14), _, _, _, _⟩) ?_ _ (.tmp 5) (.tmp 14) ?_ (w.heap.size + 1 + 1) ((((ZO.setIfInBounds 0 (.int .i64 1)).setIfInBounds 10 (.int .i64 most)).setIfInBounds 11 (.int .i64 each)).setIfInBounds 3 (.int .i64 many)) ?_ ?_ 54 ZO HZ3.out HBs.out HBl.out HB1.out ?_); rfl; rfl; rfl; rfl; intro w4 Hg4 Hu4; clear b0 b3 b10 b11; have HU14 : Hid (Upd (fun k => w.heap.size < k) _ w4) := HU13.out.trans (Hu4.out.mono (fun k _ e => .inl (by omega))); have b0 := HB0.out w4 HU14.out; have b3 := HB3.out w4 HU14.out; have b10 := HB10.out w4 HU14.out; have b11 := HB11.out w4 HU14.out))
  have HU04 : Hid (Upd (fun _ => False) w w4) := HU03.out.trans (Hu4.out.mono (fun k _ e => .inr (by omega)))
  have HY4 : Hid (w4.heap[w.heap.size + 1]? = some (.cells ZO 54 (0, 0))) := (Hu4.out.block _ (lt_of_block HY3.out) (by omega)).trans HY3.out
  have HR4 : Hid (Row w4 (w.heap.size + 1 + 1) 54 BL) := by show _ = _; rw [← HBA.out]; exact Hg4.out
  have Hrd4 : Hid (Rd w4 r rv l s) := Hr.out.upd HU04.out id (fun _ _ => id)
  refine (take8 r rv l s w4 Hrd4.out (by have := Hl.out; omega)).mono ?_
  rintro e w5 ⟨rfl, hrd5, hu5⟩
  obtain ⟨n, hn⟩ : ∃ n, n = (takeM 1 l s).1 := ⟨_, rfl⟩
  rw [← hn]
  have Hn := Lib.hid hn
  have Hrd5 : Hid (Rd w5 r rv l (stepM 1 most each many l s)) := hrd5
  have HU5 := Lib.hid hu5
  have hn' : (n : Int) < 256 := by have h := takeM_lt 1 l s; rw [← hn] at h; omega
  have hwp : IntKind.u64.wrap (n : Int) = (n : Int) := by simp [IntKind.wrap, IntKind.bits, IntKind.signed]; omega
  clear hn hrd5 hu5 hn'
  have HR5 : Hid (Row w5 (w.heap.size + 1 + 1) 54 BL) := HR4.out.upd HU5.out (by have := Hrb.out; omega)
  have HY5 : Hid (w5.heap[w.heap.size + 1]? = some (.cells ZO 54 (0, 0))) := (HU5.out.block _ (lt_of_block HY4.out) (by have := Hrb.out; omega)).trans HY4.out
  obtain ⟨LL, hLL⟩ : ∃ x, x = BL.set 2 (.int .u64 (n : Int)) := ⟨_, rfl⟩
  obtain ⟨LA, hLA⟩ : ∃ x, x = LL.toArray := ⟨_, rfl⟩
  have HLlen : Hid (LL.length = 12) := by show _ = _; rw [hLL, List.length_set, HBLe.out]; rfl
  have HLone : Hid (LL.all (·.oneCell') = true) := by show _ = _; rw [hLL, HBLe.out]; exact set_one (base_one _ _ _ _) rfl
  have HLs : Hid ((Try.prog.info? 54).map (·.size) = some LA.size) := by show _ = _; rw [sizeO, hLA]; simp [HLlen.out]
  have HLz : Hid (ZO.size = LA.size) := by show _ = _; rw [hLA]; simp [HLlen.out, ZO]
  have HL1 : Hid (LA.all (·.oneCell') = true) := by show _ = _; rw [hLA]; simpa using HLone.out
  have HRs : Hid ((w5.setCell ⟨w.heap.size + 1 + 1, 2, none⟩ (.int .u64 (n : Int))).heap[w.heap.size + 1 + 1]? = some (.cells LA 54 (0, 0))) := by show _ = _; rw [hLA, hLL]; exact HR5.out.set 2 _
  have HYs : Hid ((w5.setCell ⟨w.heap.size + 1 + 1, 2, none⟩ (.int .u64 (n : Int))).heap[w.heap.size + 1]? = some (.cells ZO 54 (0, 0))) := (heap_setCell_other w5 _ _ _ (by simp)).trans HY5.out
  have HUs : Hid (Upd (fun k => k = w.heap.size + 1 + 1) w5 (w5.setCell ⟨w.heap.size + 1 + 1, 2, none⟩ (.int .u64 (n : Int)))) := put1 (Upd.refl (fun k => k = w.heap.size + 1 + 1) w5) 2 _
  have hcc : w5.cell? ⟨w.heap.size + 1 + 1, 2, none⟩ = some ((base 0 0 0 0).getD 2 undef) := by rw [HR5.out.cell, HBLe.out]; rfl
  have hff : w5.frozen? ⟨w.heap.size + 1 + 1, 2, none⟩ = false := HR5.out.frozen 2
  have HLLe := Lib.hid hLL
  have HLAe := Lib.hid hLA
  clear hLL hLA
  go_wp2_with (first
    | ((with_reducible refine wpList_load_row (o := ⟨some 82, _, _, _, _, _⟩) ?_ 54 (.tmp 5) ?_ (w.heap.size + 1 + 1) ?_ 54 LA (0, 0) _ HRs.out Try.underlying54 ?_ HLs.out ?_); rfl; rfl; rfl; rfl)
    | ((with_reducible refine wpList_store_new (o := ⟨none, .store 54 (.tmp 4) (.tmp 82), _, _, _, _⟩) ?_ _ (.tmp 4) (.tmp 82) ?_ (w.heap.size + 1) LA ?_ ?_ 54 ZO HYs.out HLs.out HLz.out HL1.out ?_); rfl; rfl; rfl; rfl; intro w6 Hg6 Hu6))
  have HU56 : Hid (Upd (fun k => k = w.heap.size + 1 ∨ k = w.heap.size + 1 + 1) w5 w6) := (HUs.out.mono (fun k _ e => .inr e)).trans (Hu6.out.mono (fun k _ e => .inl (.inl e)))
  have HU46 : Hid (Upd (fun k => k = r ∨ k = w.heap.size + 1 ∨ k = w.heap.size + 1 + 1) w4 w6) := (HU5.out.mono (fun k _ e => .inl e)).trans (HU56.out.mono (fun k _ e => .inl (.inr e)))
  have HU6 : Hid (Upd (fun k => k = r) w w6) := (HU04.out.mono (fun _ _ e => e.elim)).trans (HU46.out.mono (fun k _ e => by
    rcases e with e | e | e
    · exact .inl e
    · exact .inr (by omega)
    · exact .inr (by omega)))
  refine bodyPost_ret (results_cell_row rfl _ _ (w.heap.size + 1) 54 LA (0, 0) _ rfl Hg6.out Try.underlying54 rfl HLs.out) rfl ?_
  have hrb := Hrb.out
  refine ⟨LL, by rw [HLAe.out], HLlen.out, HLone.out, ?_, HU6.out, ?_⟩
  · have h := Hrd5.out.upd HU56.out (by omega) (fun k hk => by have := Hvb.out k hk; omega)
    exact h
  · intro a ha h0
    subst ha
    obtain ⟨a', e1, e2, e3, e4⟩ := step_eq (W := 1) h0
    refine ⟨a', e1, e2, e3, ?_⟩
    rw [← e4, ← Hn.out, HLLe.out, HBLe.out]
    intro w' b v l' hu' hw' hb' hv' hlen
    exact lays_1 b v l' n _ _ _ _ _ _ _ _ _ _ w' hw' (by rw [Hn.out]; exact takeM_lt 1 l (a, 0)) (by omega)

set_option maxHeartbeats 4000000 in
set_option maxRecDepth 100000 in
theorem again_2 (r : Nat) (rv : Value) (l : List UInt8) (s : Nat × Int) (cs : List Value) (many most each : Int) (w : World) (hr : Rd w r rv l s) (hl : l.length ≤ 140737488351232) (hcs : OpC cs (2, many, most, each)) :
    Calls Try.prog 39 #[.pointer (some ⟨r, 0, none⟩), .agg cs.toArray] w (AgainAt 2 most each many r rv l s w) := by
  have hrb : r < w.heap.size := lt_of_block hr.1
  have hvb : ∀ k, own rv k → k < w.heap.size := fun k hk => (hr.2.1.lt k hk).2
  obtain ⟨X, hX⟩ : ∃ X, X = cs.toArray := ⟨_, rfl⟩
  obtain ⟨w1, hw1⟩ : ∃ x, x = w.alloc (.cells X 54) := ⟨_, rfl⟩
  obtain ⟨w2, hw2⟩ : ∃ x, x = w1.alloc (.cells ZO 54) := ⟨_, rfl⟩
  obtain ⟨w3, hw3⟩ : ∃ x, x = w2.alloc (.cells ZO 54) := ⟨_, rfl⟩
  have hs1 : w1.heap.size = w.heap.size + 1 := by rw [hw1]; simp
  have hs2 : w2.heap.size = w.heap.size + 1 + 1 := by rw [hw2]; simp; omega
  have hs3 : w3.heap.size = w.heap.size + 3 := by rw [hw3]; simp; omega
  have hrow : w1.heap[w.heap.size]? = some (.cells cs.toArray 54 (0, 0)) := by rw [hw1, hX]; exact heap_alloc_new w _
  have hcell : ∀ i x, cs[i]? = some x → w1.cell? ⟨w.heap.size, i, none⟩ = some x := fun i x h => by rw [cell_of_row _ _ _ _ _ _ hrow]; simpa using h
  have hu01 : Upd (fun _ => False) w w1 := by rw [hw1]; exact (Upd.refl _ w).alloc _
  have hu12 : Upd (fun _ => False) w1 w2 := by rw [hw2]; exact (Upd.refl _ w1).alloc _
  have hu23 : Upd (fun _ => False) w2 w3 := by rw [hw3]; exact (Upd.refl _ w2).alloc _
  have hu13 : Upd (fun _ => False) w1 w3 := hu12.trans (hu23.mono (fun _ _ e => e.elim))
  have b0 : w2.cell? ⟨w.heap.size, 0, none⟩ = some (.int .i64 2) := hu12.cell (hcell 0 _ hcs.c0) id
  have b3 : w2.cell? ⟨w.heap.size, 3, none⟩ = some (.int .i64 many) := hu12.cell (hcell 3 _ hcs.c3) id
  have b10 : w2.cell? ⟨w.heap.size, 10, none⟩ = some (.int .i64 most) := hu12.cell (hcell 10 _ hcs.c10) id
  have b11 : w2.cell? ⟨w.heap.size, 11, none⟩ = some (.int .i64 each) := hu12.cell (hcell 11 _ hcs.c11) id
  have HB0 : Hid (∀ w', Upd (fun k => w.heap.size < k) w1 w' → w'.cell? ⟨w.heap.size, 0, none⟩ = some (.int .i64 2)) := fun w' hu => hu.cell (hcell 0 _ hcs.c0) (by simp)
  have HB3 : Hid (∀ w', Upd (fun k => w.heap.size < k) w1 w' → w'.cell? ⟨w.heap.size, 3, none⟩ = some (.int .i64 many)) := fun w' hu => hu.cell (hcell 3 _ hcs.c3) (by simp)
  have HB10 : Hid (∀ w', Upd (fun k => w.heap.size < k) w1 w' → w'.cell? ⟨w.heap.size, 10, none⟩ = some (.int .i64 most)) := fun w' hu => hu.cell (hcell 10 _ hcs.c10) (by simp)
  have HB11 : Hid (∀ w', Upd (fun k => w.heap.size < k) w1 w' → w'.cell? ⟨w.heap.size, 11, none⟩ = some (.int .i64 each)) := fun w' hu => hu.cell (hcell 11 _ hcs.c11) (by simp)
  have HZ3 : Hid (w3.heap[w.heap.size + 1 + 1]? = some (.cells ZO 54 (0, 0))) := by show _ = _; rw [← hs2, hw3]; exact heap_alloc_new w2 _
  have HY3 : Hid (w3.heap[w.heap.size + 1]? = some (.cells ZO 54 (0, 0))) := by
    have h : w2.heap[w.heap.size + 1]? = some (.cells ZO 54 (0, 0)) := by rw [← hs1, hw2]; exact heap_alloc_new w1 _
    exact (hu23.block _ (by omega) id).trans h
  obtain ⟨BL, hBL⟩ : ∃ x, x = base 2 many most each := ⟨_, rfl⟩
  have hBA : ((((ZO.setIfInBounds 0 (.int .i64 2)).setIfInBounds 10 (.int .i64 most)).setIfInBounds 11 (.int .i64 each)).setIfInBounds 3 (.int .i64 many)) = BL.toArray := by rw [hBL]; exact set_base 2 many most each
  have HBs : Hid ((Try.prog.info? 54).map (·.size) = some (((((ZO.setIfInBounds 0 (.int .i64 2)).setIfInBounds 10 (.int .i64 most)).setIfInBounds 11 (.int .i64 each)).setIfInBounds 3 (.int .i64 many))).size) := by show _ = _; rw [hBA, sizeO, hBL]; rfl
  have HBl : Hid (ZO.size = (((((ZO.setIfInBounds 0 (.int .i64 2)).setIfInBounds 10 (.int .i64 most)).setIfInBounds 11 (.int .i64 each)).setIfInBounds 3 (.int .i64 many))).size) := by show _ = _; rw [hBA, hBL]; rfl
  have HB1 : Hid ((((((ZO.setIfInBounds 0 (.int .i64 2)).setIfInBounds 10 (.int .i64 most)).setIfInBounds 11 (.int .i64 each)).setIfInBounds 3 (.int .i64 many))).all (·.oneCell') = true) := by show _ = _; rw [hBA, hBL]; simpa using base_one 2 many most each
  have HBA := Lib.hid hBA
  have HBLe := Lib.hid hBL
  have Hr := Lib.hid hr
  have Hl := Lib.hid hl
  have Hrb := Lib.hid hrb
  have Hvb := Lib.hid hvb
  have Hs3 := Lib.hid hs3
  have HU13 : Hid (Upd (fun k => w.heap.size < k) w1 w3) := hu13.mono (fun _ _ e => e.elim)
  have HU03 : Hid (Upd (fun _ => False) w w3) := hu01.trans (hu13.mono (fun _ _ e => e.elim))
  have hz := zeroO
  rw [← hX]
  subst hw3
  subst hw2
  subst hw1
  clear hX hs1 hs2 hs3 hrow hcell hu01 hu12 hu23 hu13 hcs hBL hBA hr hl hrb hvb
  go_enter Try.func39, Try.ntmps39
  go_wp2_with (first
    | ((with_reducible refine wpList_store_new (o := ⟨none, .store 54 (.tmp 5) (.tmp 14), _, _, _, _⟩) ?_ _ (.tmp 5) (.tmp 14) ?_ (w.heap.size + 1 + 1) ((((ZO.setIfInBounds 0 (.int .i64 2)).setIfInBounds 10 (.int .i64 most)).setIfInBounds 11 (.int .i64 each)).setIfInBounds 3 (.int .i64 many)) ?_ ?_ 54 ZO HZ3.out HBs.out HBl.out HB1.out ?_); rfl; rfl; rfl; rfl; intro w4 Hg4 Hu4; clear b0 b3 b10 b11; have HU14 : Hid (Upd (fun k => w.heap.size < k) _ w4) := HU13.out.trans (Hu4.out.mono (fun k _ e => .inl (by omega))); have b0 := HB0.out w4 HU14.out; have b3 := HB3.out w4 HU14.out; have b10 := HB10.out w4 HU14.out; have b11 := HB11.out w4 HU14.out))
  have HU04 : Hid (Upd (fun _ => False) w w4) := HU03.out.trans (Hu4.out.mono (fun k _ e => .inr (by omega)))
  have HY4 : Hid (w4.heap[w.heap.size + 1]? = some (.cells ZO 54 (0, 0))) := (Hu4.out.block _ (lt_of_block HY3.out) (by omega)).trans HY3.out
  have HR4 : Hid (Row w4 (w.heap.size + 1 + 1) 54 BL) := by show _ = _; rw [← HBA.out]; exact Hg4.out
  have Hrd4 : Hid (Rd w4 r rv l s) := Hr.out.upd HU04.out id (fun _ _ => id)
  refine (take16 r rv l s w4 Hrd4.out (by have := Hl.out; omega)).mono ?_
  rintro e w5 ⟨rfl, hrd5, hu5⟩
  obtain ⟨n, hn⟩ : ∃ n, n = (takeM 2 l s).1 := ⟨_, rfl⟩
  rw [← hn]
  have Hn := Lib.hid hn
  have Hrd5 : Hid (Rd w5 r rv l (stepM 2 most each many l s)) := hrd5
  have HU5 := Lib.hid hu5
  have hn' : (n : Int) < 65536 := by have h := takeM_lt 2 l s; rw [← hn] at h; omega
  have hwp : IntKind.u64.wrap (n : Int) = (n : Int) := by simp [IntKind.wrap, IntKind.bits, IntKind.signed]; omega
  clear hn hrd5 hu5 hn'
  have HR5 : Hid (Row w5 (w.heap.size + 1 + 1) 54 BL) := HR4.out.upd HU5.out (by have := Hrb.out; omega)
  have HY5 : Hid (w5.heap[w.heap.size + 1]? = some (.cells ZO 54 (0, 0))) := (HU5.out.block _ (lt_of_block HY4.out) (by have := Hrb.out; omega)).trans HY4.out
  obtain ⟨LL, hLL⟩ : ∃ x, x = BL.set 2 (.int .u64 (n : Int)) := ⟨_, rfl⟩
  obtain ⟨LA, hLA⟩ : ∃ x, x = LL.toArray := ⟨_, rfl⟩
  have HLlen : Hid (LL.length = 12) := by show _ = _; rw [hLL, List.length_set, HBLe.out]; rfl
  have HLone : Hid (LL.all (·.oneCell') = true) := by show _ = _; rw [hLL, HBLe.out]; exact set_one (base_one _ _ _ _) rfl
  have HLs : Hid ((Try.prog.info? 54).map (·.size) = some LA.size) := by show _ = _; rw [sizeO, hLA]; simp [HLlen.out]
  have HLz : Hid (ZO.size = LA.size) := by show _ = _; rw [hLA]; simp [HLlen.out, ZO]
  have HL1 : Hid (LA.all (·.oneCell') = true) := by show _ = _; rw [hLA]; simpa using HLone.out
  have HRs : Hid ((w5.setCell ⟨w.heap.size + 1 + 1, 2, none⟩ (.int .u64 (n : Int))).heap[w.heap.size + 1 + 1]? = some (.cells LA 54 (0, 0))) := by show _ = _; rw [hLA, hLL]; exact HR5.out.set 2 _
  have HYs : Hid ((w5.setCell ⟨w.heap.size + 1 + 1, 2, none⟩ (.int .u64 (n : Int))).heap[w.heap.size + 1]? = some (.cells ZO 54 (0, 0))) := (heap_setCell_other w5 _ _ _ (by simp)).trans HY5.out
  have HUs : Hid (Upd (fun k => k = w.heap.size + 1 + 1) w5 (w5.setCell ⟨w.heap.size + 1 + 1, 2, none⟩ (.int .u64 (n : Int)))) := put1 (Upd.refl (fun k => k = w.heap.size + 1 + 1) w5) 2 _
  have hcc : w5.cell? ⟨w.heap.size + 1 + 1, 2, none⟩ = some ((base 0 0 0 0).getD 2 undef) := by rw [HR5.out.cell, HBLe.out]; rfl
  have hff : w5.frozen? ⟨w.heap.size + 1 + 1, 2, none⟩ = false := HR5.out.frozen 2
  have HLLe := Lib.hid hLL
  have HLAe := Lib.hid hLA
  clear hLL hLA
  go_wp2_with (first
    | ((with_reducible refine wpList_load_row (o := ⟨some 82, _, _, _, _, _⟩) ?_ 54 (.tmp 5) ?_ (w.heap.size + 1 + 1) ?_ 54 LA (0, 0) _ HRs.out Try.underlying54 ?_ HLs.out ?_); rfl; rfl; rfl; rfl)
    | ((with_reducible refine wpList_store_new (o := ⟨none, .store 54 (.tmp 4) (.tmp 82), _, _, _, _⟩) ?_ _ (.tmp 4) (.tmp 82) ?_ (w.heap.size + 1) LA ?_ ?_ 54 ZO HYs.out HLs.out HLz.out HL1.out ?_); rfl; rfl; rfl; rfl; intro w6 Hg6 Hu6))
  have HU56 : Hid (Upd (fun k => k = w.heap.size + 1 ∨ k = w.heap.size + 1 + 1) w5 w6) := (HUs.out.mono (fun k _ e => .inr e)).trans (Hu6.out.mono (fun k _ e => .inl (.inl e)))
  have HU46 : Hid (Upd (fun k => k = r ∨ k = w.heap.size + 1 ∨ k = w.heap.size + 1 + 1) w4 w6) := (HU5.out.mono (fun k _ e => .inl e)).trans (HU56.out.mono (fun k _ e => .inl (.inr e)))
  have HU6 : Hid (Upd (fun k => k = r) w w6) := (HU04.out.mono (fun _ _ e => e.elim)).trans (HU46.out.mono (fun k _ e => by
    rcases e with e | e | e
    · exact .inl e
    · exact .inr (by omega)
    · exact .inr (by omega)))
  refine bodyPost_ret (results_cell_row rfl _ _ (w.heap.size + 1) 54 LA (0, 0) _ rfl Hg6.out Try.underlying54 rfl HLs.out) rfl ?_
  have hrb := Hrb.out
  refine ⟨LL, by rw [HLAe.out], HLlen.out, HLone.out, ?_, HU6.out, ?_⟩
  · have h := Hrd5.out.upd HU56.out (by omega) (fun k hk => by have := Hvb.out k hk; omega)
    exact h
  · intro a ha h0
    subst ha
    obtain ⟨a', e1, e2, e3, e4⟩ := step_eq (W := 2) h0
    refine ⟨a', e1, e2, e3, ?_⟩
    rw [← e4, ← Hn.out, HLLe.out, HBLe.out]
    intro w' b v l' hu' hw' hb' hv' hlen
    exact lays_2 b v l' n _ _ _ _ _ _ _ _ _ _ w' hw' (by rw [Hn.out]; exact takeM_lt 2 l (a, 0)) (by omega)

set_option maxHeartbeats 4000000 in
set_option maxRecDepth 100000 in
theorem again_3 (r : Nat) (rv : Value) (l : List UInt8) (s : Nat × Int) (cs : List Value) (many most each : Int) (w : World) (hr : Rd w r rv l s) (hl : l.length ≤ 140737488351232) (hcs : OpC cs (3, many, most, each)) :
    Calls Try.prog 39 #[.pointer (some ⟨r, 0, none⟩), .agg cs.toArray] w (AgainAt 3 most each many r rv l s w) := by
  have hrb : r < w.heap.size := lt_of_block hr.1
  have hvb : ∀ k, own rv k → k < w.heap.size := fun k hk => (hr.2.1.lt k hk).2
  obtain ⟨X, hX⟩ : ∃ X, X = cs.toArray := ⟨_, rfl⟩
  obtain ⟨w1, hw1⟩ : ∃ x, x = w.alloc (.cells X 54) := ⟨_, rfl⟩
  obtain ⟨w2, hw2⟩ : ∃ x, x = w1.alloc (.cells ZO 54) := ⟨_, rfl⟩
  obtain ⟨w3, hw3⟩ : ∃ x, x = w2.alloc (.cells ZO 54) := ⟨_, rfl⟩
  have hs1 : w1.heap.size = w.heap.size + 1 := by rw [hw1]; simp
  have hs2 : w2.heap.size = w.heap.size + 1 + 1 := by rw [hw2]; simp; omega
  have hs3 : w3.heap.size = w.heap.size + 3 := by rw [hw3]; simp; omega
  have hrow : w1.heap[w.heap.size]? = some (.cells cs.toArray 54 (0, 0)) := by rw [hw1, hX]; exact heap_alloc_new w _
  have hcell : ∀ i x, cs[i]? = some x → w1.cell? ⟨w.heap.size, i, none⟩ = some x := fun i x h => by rw [cell_of_row _ _ _ _ _ _ hrow]; simpa using h
  have hu01 : Upd (fun _ => False) w w1 := by rw [hw1]; exact (Upd.refl _ w).alloc _
  have hu12 : Upd (fun _ => False) w1 w2 := by rw [hw2]; exact (Upd.refl _ w1).alloc _
  have hu23 : Upd (fun _ => False) w2 w3 := by rw [hw3]; exact (Upd.refl _ w2).alloc _
  have hu13 : Upd (fun _ => False) w1 w3 := hu12.trans (hu23.mono (fun _ _ e => e.elim))
  have b0 : w2.cell? ⟨w.heap.size, 0, none⟩ = some (.int .i64 3) := hu12.cell (hcell 0 _ hcs.c0) id
  have b3 : w2.cell? ⟨w.heap.size, 3, none⟩ = some (.int .i64 many) := hu12.cell (hcell 3 _ hcs.c3) id
  have b10 : w2.cell? ⟨w.heap.size, 10, none⟩ = some (.int .i64 most) := hu12.cell (hcell 10 _ hcs.c10) id
  have b11 : w2.cell? ⟨w.heap.size, 11, none⟩ = some (.int .i64 each) := hu12.cell (hcell 11 _ hcs.c11) id
  have HB0 : Hid (∀ w', Upd (fun k => w.heap.size < k) w1 w' → w'.cell? ⟨w.heap.size, 0, none⟩ = some (.int .i64 3)) := fun w' hu => hu.cell (hcell 0 _ hcs.c0) (by simp)
  have HB3 : Hid (∀ w', Upd (fun k => w.heap.size < k) w1 w' → w'.cell? ⟨w.heap.size, 3, none⟩ = some (.int .i64 many)) := fun w' hu => hu.cell (hcell 3 _ hcs.c3) (by simp)
  have HB10 : Hid (∀ w', Upd (fun k => w.heap.size < k) w1 w' → w'.cell? ⟨w.heap.size, 10, none⟩ = some (.int .i64 most)) := fun w' hu => hu.cell (hcell 10 _ hcs.c10) (by simp)
  have HB11 : Hid (∀ w', Upd (fun k => w.heap.size < k) w1 w' → w'.cell? ⟨w.heap.size, 11, none⟩ = some (.int .i64 each)) := fun w' hu => hu.cell (hcell 11 _ hcs.c11) (by simp)
  have HZ3 : Hid (w3.heap[w.heap.size + 1 + 1]? = some (.cells ZO 54 (0, 0))) := by show _ = _; rw [← hs2, hw3]; exact heap_alloc_new w2 _
  have HY3 : Hid (w3.heap[w.heap.size + 1]? = some (.cells ZO 54 (0, 0))) := by
    have h : w2.heap[w.heap.size + 1]? = some (.cells ZO 54 (0, 0)) := by rw [← hs1, hw2]; exact heap_alloc_new w1 _
    exact (hu23.block _ (by omega) id).trans h
  obtain ⟨BL, hBL⟩ : ∃ x, x = base 3 many most each := ⟨_, rfl⟩
  have hBA : ((((ZO.setIfInBounds 0 (.int .i64 3)).setIfInBounds 10 (.int .i64 most)).setIfInBounds 11 (.int .i64 each)).setIfInBounds 3 (.int .i64 many)) = BL.toArray := by rw [hBL]; exact set_base 3 many most each
  have HBs : Hid ((Try.prog.info? 54).map (·.size) = some (((((ZO.setIfInBounds 0 (.int .i64 3)).setIfInBounds 10 (.int .i64 most)).setIfInBounds 11 (.int .i64 each)).setIfInBounds 3 (.int .i64 many))).size) := by show _ = _; rw [hBA, sizeO, hBL]; rfl
  have HBl : Hid (ZO.size = (((((ZO.setIfInBounds 0 (.int .i64 3)).setIfInBounds 10 (.int .i64 most)).setIfInBounds 11 (.int .i64 each)).setIfInBounds 3 (.int .i64 many))).size) := by show _ = _; rw [hBA, hBL]; rfl
  have HB1 : Hid ((((((ZO.setIfInBounds 0 (.int .i64 3)).setIfInBounds 10 (.int .i64 most)).setIfInBounds 11 (.int .i64 each)).setIfInBounds 3 (.int .i64 many))).all (·.oneCell') = true) := by show _ = _; rw [hBA, hBL]; simpa using base_one 3 many most each
  have HBA := Lib.hid hBA
  have HBLe := Lib.hid hBL
  have Hr := Lib.hid hr
  have Hl := Lib.hid hl
  have Hrb := Lib.hid hrb
  have Hvb := Lib.hid hvb
  have Hs3 := Lib.hid hs3
  have HU13 : Hid (Upd (fun k => w.heap.size < k) w1 w3) := hu13.mono (fun _ _ e => e.elim)
  have HU03 : Hid (Upd (fun _ => False) w w3) := hu01.trans (hu13.mono (fun _ _ e => e.elim))
  have hz := zeroO
  rw [← hX]
  subst hw3
  subst hw2
  subst hw1
  clear hX hs1 hs2 hs3 hrow hcell hu01 hu12 hu23 hu13 hcs hBL hBA hr hl hrb hvb
  go_enter Try.func39, Try.ntmps39
  go_wp2_with (first
    | ((with_reducible refine wpList_store_new (o := ⟨none, .store 54 (.tmp 5) (.tmp 14), _, _, _, _⟩) ?_ _ (.tmp 5) (.tmp 14) ?_ (w.heap.size + 1 + 1) ((((ZO.setIfInBounds 0 (.int .i64 3)).setIfInBounds 10 (.int .i64 most)).setIfInBounds 11 (.int .i64 each)).setIfInBounds 3 (.int .i64 many)) ?_ ?_ 54 ZO HZ3.out HBs.out HBl.out HB1.out ?_); rfl; rfl; rfl; rfl; intro w4 Hg4 Hu4; clear b0 b3 b10 b11; have HU14 : Hid (Upd (fun k => w.heap.size < k) _ w4) := HU13.out.trans (Hu4.out.mono (fun k _ e => .inl (by omega))); have b0 := HB0.out w4 HU14.out; have b3 := HB3.out w4 HU14.out; have b10 := HB10.out w4 HU14.out; have b11 := HB11.out w4 HU14.out))
  have HU04 : Hid (Upd (fun _ => False) w w4) := HU03.out.trans (Hu4.out.mono (fun k _ e => .inr (by omega)))
  have HY4 : Hid (w4.heap[w.heap.size + 1]? = some (.cells ZO 54 (0, 0))) := (Hu4.out.block _ (lt_of_block HY3.out) (by omega)).trans HY3.out
  have HR4 : Hid (Row w4 (w.heap.size + 1 + 1) 54 BL) := by show _ = _; rw [← HBA.out]; exact Hg4.out
  have Hrd4 : Hid (Rd w4 r rv l s) := Hr.out.upd HU04.out id (fun _ _ => id)
  refine (take32 r rv l s w4 Hrd4.out (by have := Hl.out; omega)).mono ?_
  rintro e w5 ⟨rfl, hrd5, hu5⟩
  obtain ⟨n, hn⟩ : ∃ n, n = (takeM 4 l s).1 := ⟨_, rfl⟩
  rw [← hn]
  have Hn := Lib.hid hn
  have Hrd5 : Hid (Rd w5 r rv l (stepM 3 most each many l s)) := hrd5
  have HU5 := Lib.hid hu5
  have hn' : (n : Int) < 4294967296 := by have h := takeM_lt 4 l s; rw [← hn] at h; omega
  have hwp : IntKind.u64.wrap (n : Int) = (n : Int) := by simp [IntKind.wrap, IntKind.bits, IntKind.signed]; omega
  clear hn hrd5 hu5 hn'
  have HR5 : Hid (Row w5 (w.heap.size + 1 + 1) 54 BL) := HR4.out.upd HU5.out (by have := Hrb.out; omega)
  have HY5 : Hid (w5.heap[w.heap.size + 1]? = some (.cells ZO 54 (0, 0))) := (HU5.out.block _ (lt_of_block HY4.out) (by have := Hrb.out; omega)).trans HY4.out
  obtain ⟨LL, hLL⟩ : ∃ x, x = BL.set 2 (.int .u64 (n : Int)) := ⟨_, rfl⟩
  obtain ⟨LA, hLA⟩ : ∃ x, x = LL.toArray := ⟨_, rfl⟩
  have HLlen : Hid (LL.length = 12) := by show _ = _; rw [hLL, List.length_set, HBLe.out]; rfl
  have HLone : Hid (LL.all (·.oneCell') = true) := by show _ = _; rw [hLL, HBLe.out]; exact set_one (base_one _ _ _ _) rfl
  have HLs : Hid ((Try.prog.info? 54).map (·.size) = some LA.size) := by show _ = _; rw [sizeO, hLA]; simp [HLlen.out]
  have HLz : Hid (ZO.size = LA.size) := by show _ = _; rw [hLA]; simp [HLlen.out, ZO]
  have HL1 : Hid (LA.all (·.oneCell') = true) := by show _ = _; rw [hLA]; simpa using HLone.out
  have HRs : Hid ((w5.setCell ⟨w.heap.size + 1 + 1, 2, none⟩ (.int .u64 (n : Int))).heap[w.heap.size + 1 + 1]? = some (.cells LA 54 (0, 0))) := by show _ = _; rw [hLA, hLL]; exact HR5.out.set 2 _
  have HYs : Hid ((w5.setCell ⟨w.heap.size + 1 + 1, 2, none⟩ (.int .u64 (n : Int))).heap[w.heap.size + 1]? = some (.cells ZO 54 (0, 0))) := (heap_setCell_other w5 _ _ _ (by simp)).trans HY5.out
  have HUs : Hid (Upd (fun k => k = w.heap.size + 1 + 1) w5 (w5.setCell ⟨w.heap.size + 1 + 1, 2, none⟩ (.int .u64 (n : Int)))) := put1 (Upd.refl (fun k => k = w.heap.size + 1 + 1) w5) 2 _
  have hcc : w5.cell? ⟨w.heap.size + 1 + 1, 2, none⟩ = some ((base 0 0 0 0).getD 2 undef) := by rw [HR5.out.cell, HBLe.out]; rfl
  have hff : w5.frozen? ⟨w.heap.size + 1 + 1, 2, none⟩ = false := HR5.out.frozen 2
  have HLLe := Lib.hid hLL
  have HLAe := Lib.hid hLA
  clear hLL hLA
  go_wp2_with (first
    | ((with_reducible refine wpList_load_row (o := ⟨some 82, _, _, _, _, _⟩) ?_ 54 (.tmp 5) ?_ (w.heap.size + 1 + 1) ?_ 54 LA (0, 0) _ HRs.out Try.underlying54 ?_ HLs.out ?_); rfl; rfl; rfl; rfl)
    | ((with_reducible refine wpList_store_new (o := ⟨none, .store 54 (.tmp 4) (.tmp 82), _, _, _, _⟩) ?_ _ (.tmp 4) (.tmp 82) ?_ (w.heap.size + 1) LA ?_ ?_ 54 ZO HYs.out HLs.out HLz.out HL1.out ?_); rfl; rfl; rfl; rfl; intro w6 Hg6 Hu6))
  have HU56 : Hid (Upd (fun k => k = w.heap.size + 1 ∨ k = w.heap.size + 1 + 1) w5 w6) := (HUs.out.mono (fun k _ e => .inr e)).trans (Hu6.out.mono (fun k _ e => .inl (.inl e)))
  have HU46 : Hid (Upd (fun k => k = r ∨ k = w.heap.size + 1 ∨ k = w.heap.size + 1 + 1) w4 w6) := (HU5.out.mono (fun k _ e => .inl e)).trans (HU56.out.mono (fun k _ e => .inl (.inr e)))
  have HU6 : Hid (Upd (fun k => k = r) w w6) := (HU04.out.mono (fun _ _ e => e.elim)).trans (HU46.out.mono (fun k _ e => by
    rcases e with e | e | e
    · exact .inl e
    · exact .inr (by omega)
    · exact .inr (by omega)))
  refine bodyPost_ret (results_cell_row rfl _ _ (w.heap.size + 1) 54 LA (0, 0) _ rfl Hg6.out Try.underlying54 rfl HLs.out) rfl ?_
  have hrb := Hrb.out
  refine ⟨LL, by rw [HLAe.out], HLlen.out, HLone.out, ?_, HU6.out, ?_⟩
  · have h := Hrd5.out.upd HU56.out (by omega) (fun k hk => by have := Hvb.out k hk; omega)
    exact h
  · intro a ha h0
    subst ha
    obtain ⟨a', e1, e2, e3, e4⟩ := step_eq (W := 4) h0
    refine ⟨a', e1, e2, e3, ?_⟩
    rw [← e4, ← Hn.out, HLLe.out, HBLe.out]
    intro w' b v l' hu' hw' hb' hv' hlen
    exact lays_3 b v l' n _ _ _ _ _ _ _ _ _ _ w' hw' (by rw [Hn.out]; exact takeM_lt 4 l (a, 0)) (by omega)

set_option maxHeartbeats 4000000 in
set_option maxRecDepth 100000 in
theorem again_4 (r : Nat) (rv : Value) (l : List UInt8) (s : Nat × Int) (cs : List Value) (many most each : Int) (w : World) (hr : Rd w r rv l s) (hl : l.length ≤ 140737488351232) (hcs : OpC cs (4, many, most, each)) :
    Calls Try.prog 39 #[.pointer (some ⟨r, 0, none⟩), .agg cs.toArray] w (AgainAt 4 most each many r rv l s w) := by
  have hrb : r < w.heap.size := lt_of_block hr.1
  have hvb : ∀ k, own rv k → k < w.heap.size := fun k hk => (hr.2.1.lt k hk).2
  obtain ⟨X, hX⟩ : ∃ X, X = cs.toArray := ⟨_, rfl⟩
  obtain ⟨w1, hw1⟩ : ∃ x, x = w.alloc (.cells X 54) := ⟨_, rfl⟩
  obtain ⟨w2, hw2⟩ : ∃ x, x = w1.alloc (.cells ZO 54) := ⟨_, rfl⟩
  obtain ⟨w3, hw3⟩ : ∃ x, x = w2.alloc (.cells ZO 54) := ⟨_, rfl⟩
  have hs1 : w1.heap.size = w.heap.size + 1 := by rw [hw1]; simp
  have hs2 : w2.heap.size = w.heap.size + 1 + 1 := by rw [hw2]; simp; omega
  have hs3 : w3.heap.size = w.heap.size + 3 := by rw [hw3]; simp; omega
  have hrow : w1.heap[w.heap.size]? = some (.cells cs.toArray 54 (0, 0)) := by rw [hw1, hX]; exact heap_alloc_new w _
  have hcell : ∀ i x, cs[i]? = some x → w1.cell? ⟨w.heap.size, i, none⟩ = some x := fun i x h => by rw [cell_of_row _ _ _ _ _ _ hrow]; simpa using h
  have hu01 : Upd (fun _ => False) w w1 := by rw [hw1]; exact (Upd.refl _ w).alloc _
  have hu12 : Upd (fun _ => False) w1 w2 := by rw [hw2]; exact (Upd.refl _ w1).alloc _
  have hu23 : Upd (fun _ => False) w2 w3 := by rw [hw3]; exact (Upd.refl _ w2).alloc _
  have hu13 : Upd (fun _ => False) w1 w3 := hu12.trans (hu23.mono (fun _ _ e => e.elim))
  have b0 : w2.cell? ⟨w.heap.size, 0, none⟩ = some (.int .i64 4) := hu12.cell (hcell 0 _ hcs.c0) id
  have b3 : w2.cell? ⟨w.heap.size, 3, none⟩ = some (.int .i64 many) := hu12.cell (hcell 3 _ hcs.c3) id
  have b10 : w2.cell? ⟨w.heap.size, 10, none⟩ = some (.int .i64 most) := hu12.cell (hcell 10 _ hcs.c10) id
  have b11 : w2.cell? ⟨w.heap.size, 11, none⟩ = some (.int .i64 each) := hu12.cell (hcell 11 _ hcs.c11) id
  have HB0 : Hid (∀ w', Upd (fun k => w.heap.size < k) w1 w' → w'.cell? ⟨w.heap.size, 0, none⟩ = some (.int .i64 4)) := fun w' hu => hu.cell (hcell 0 _ hcs.c0) (by simp)
  have HB3 : Hid (∀ w', Upd (fun k => w.heap.size < k) w1 w' → w'.cell? ⟨w.heap.size, 3, none⟩ = some (.int .i64 many)) := fun w' hu => hu.cell (hcell 3 _ hcs.c3) (by simp)
  have HB10 : Hid (∀ w', Upd (fun k => w.heap.size < k) w1 w' → w'.cell? ⟨w.heap.size, 10, none⟩ = some (.int .i64 most)) := fun w' hu => hu.cell (hcell 10 _ hcs.c10) (by simp)
  have HB11 : Hid (∀ w', Upd (fun k => w.heap.size < k) w1 w' → w'.cell? ⟨w.heap.size, 11, none⟩ = some (.int .i64 each)) := fun w' hu => hu.cell (hcell 11 _ hcs.c11) (by simp)
  have HZ3 : Hid (w3.heap[w.heap.size + 1 + 1]? = some (.cells ZO 54 (0, 0))) := by show _ = _; rw [← hs2, hw3]; exact heap_alloc_new w2 _
  have HY3 : Hid (w3.heap[w.heap.size + 1]? = some (.cells ZO 54 (0, 0))) := by
    have h : w2.heap[w.heap.size + 1]? = some (.cells ZO 54 (0, 0)) := by rw [← hs1, hw2]; exact heap_alloc_new w1 _
    exact (hu23.block _ (by omega) id).trans h
  obtain ⟨BL, hBL⟩ : ∃ x, x = base 4 many most each := ⟨_, rfl⟩
  have hBA : ((((ZO.setIfInBounds 0 (.int .i64 4)).setIfInBounds 10 (.int .i64 most)).setIfInBounds 11 (.int .i64 each)).setIfInBounds 3 (.int .i64 many)) = BL.toArray := by rw [hBL]; exact set_base 4 many most each
  have HBs : Hid ((Try.prog.info? 54).map (·.size) = some (((((ZO.setIfInBounds 0 (.int .i64 4)).setIfInBounds 10 (.int .i64 most)).setIfInBounds 11 (.int .i64 each)).setIfInBounds 3 (.int .i64 many))).size) := by show _ = _; rw [hBA, sizeO, hBL]; rfl
  have HBl : Hid (ZO.size = (((((ZO.setIfInBounds 0 (.int .i64 4)).setIfInBounds 10 (.int .i64 most)).setIfInBounds 11 (.int .i64 each)).setIfInBounds 3 (.int .i64 many))).size) := by show _ = _; rw [hBA, hBL]; rfl
  have HB1 : Hid ((((((ZO.setIfInBounds 0 (.int .i64 4)).setIfInBounds 10 (.int .i64 most)).setIfInBounds 11 (.int .i64 each)).setIfInBounds 3 (.int .i64 many))).all (·.oneCell') = true) := by show _ = _; rw [hBA, hBL]; simpa using base_one 4 many most each
  have HBA := Lib.hid hBA
  have HBLe := Lib.hid hBL
  have Hr := Lib.hid hr
  have Hl := Lib.hid hl
  have Hrb := Lib.hid hrb
  have Hvb := Lib.hid hvb
  have Hs3 := Lib.hid hs3
  have HU13 : Hid (Upd (fun k => w.heap.size < k) w1 w3) := hu13.mono (fun _ _ e => e.elim)
  have HU03 : Hid (Upd (fun _ => False) w w3) := hu01.trans (hu13.mono (fun _ _ e => e.elim))
  have hz := zeroO
  rw [← hX]
  subst hw3
  subst hw2
  subst hw1
  clear hX hs1 hs2 hs3 hrow hcell hu01 hu12 hu23 hu13 hcs hBL hBA hr hl hrb hvb
  go_enter Try.func39, Try.ntmps39
  go_wp2_with (first
    | ((with_reducible refine wpList_store_new (o := ⟨none, .store 54 (.tmp 5) (.tmp 14), _, _, _, _⟩) ?_ _ (.tmp 5) (.tmp 14) ?_ (w.heap.size + 1 + 1) ((((ZO.setIfInBounds 0 (.int .i64 4)).setIfInBounds 10 (.int .i64 most)).setIfInBounds 11 (.int .i64 each)).setIfInBounds 3 (.int .i64 many)) ?_ ?_ 54 ZO HZ3.out HBs.out HBl.out HB1.out ?_); rfl; rfl; rfl; rfl; intro w4 Hg4 Hu4; clear b0 b3 b10 b11; have HU14 : Hid (Upd (fun k => w.heap.size < k) _ w4) := HU13.out.trans (Hu4.out.mono (fun k _ e => .inl (by omega))); have b0 := HB0.out w4 HU14.out; have b3 := HB3.out w4 HU14.out; have b10 := HB10.out w4 HU14.out; have b11 := HB11.out w4 HU14.out))
  have HU04 : Hid (Upd (fun _ => False) w w4) := HU03.out.trans (Hu4.out.mono (fun k _ e => .inr (by omega)))
  have HY4 : Hid (w4.heap[w.heap.size + 1]? = some (.cells ZO 54 (0, 0))) := (Hu4.out.block _ (lt_of_block HY3.out) (by omega)).trans HY3.out
  have HR4 : Hid (Row w4 (w.heap.size + 1 + 1) 54 BL) := by show _ = _; rw [← HBA.out]; exact Hg4.out
  have Hrd4 : Hid (Rd w4 r rv l s) := Hr.out.upd HU04.out id (fun _ _ => id)
  refine (take64 r rv l s w4 Hrd4.out (by have := Hl.out; omega)).mono ?_
  rintro e w5 ⟨rfl, hrd5, hu5⟩
  obtain ⟨n, hn⟩ : ∃ n, n = (takeM 8 l s).1 := ⟨_, rfl⟩
  rw [← hn]
  have Hn := Lib.hid hn
  have Hrd5 : Hid (Rd w5 r rv l (stepM 4 most each many l s)) := hrd5
  have HU5 := Lib.hid hu5
  have hn' : (n : Int) < 18446744073709551616 := by have h := takeM_lt 8 l s; rw [← hn] at h; omega
  have hwp : IntKind.u64.wrap (n : Int) = (n : Int) := by simp [IntKind.wrap, IntKind.bits, IntKind.signed]; omega
  clear hn hrd5 hu5 hn'
  have HR5 : Hid (Row w5 (w.heap.size + 1 + 1) 54 BL) := HR4.out.upd HU5.out (by have := Hrb.out; omega)
  have HY5 : Hid (w5.heap[w.heap.size + 1]? = some (.cells ZO 54 (0, 0))) := (HU5.out.block _ (lt_of_block HY4.out) (by have := Hrb.out; omega)).trans HY4.out
  obtain ⟨LL, hLL⟩ : ∃ x, x = BL.set 2 (.int .u64 (n : Int)) := ⟨_, rfl⟩
  obtain ⟨LA, hLA⟩ : ∃ x, x = LL.toArray := ⟨_, rfl⟩
  have HLlen : Hid (LL.length = 12) := by show _ = _; rw [hLL, List.length_set, HBLe.out]; rfl
  have HLone : Hid (LL.all (·.oneCell') = true) := by show _ = _; rw [hLL, HBLe.out]; exact set_one (base_one _ _ _ _) rfl
  have HLs : Hid ((Try.prog.info? 54).map (·.size) = some LA.size) := by show _ = _; rw [sizeO, hLA]; simp [HLlen.out]
  have HLz : Hid (ZO.size = LA.size) := by show _ = _; rw [hLA]; simp [HLlen.out, ZO]
  have HL1 : Hid (LA.all (·.oneCell') = true) := by show _ = _; rw [hLA]; simpa using HLone.out
  have HRs : Hid ((w5.setCell ⟨w.heap.size + 1 + 1, 2, none⟩ (.int .u64 (n : Int))).heap[w.heap.size + 1 + 1]? = some (.cells LA 54 (0, 0))) := by show _ = _; rw [hLA, hLL]; exact HR5.out.set 2 _
  have HYs : Hid ((w5.setCell ⟨w.heap.size + 1 + 1, 2, none⟩ (.int .u64 (n : Int))).heap[w.heap.size + 1]? = some (.cells ZO 54 (0, 0))) := (heap_setCell_other w5 _ _ _ (by simp)).trans HY5.out
  have HUs : Hid (Upd (fun k => k = w.heap.size + 1 + 1) w5 (w5.setCell ⟨w.heap.size + 1 + 1, 2, none⟩ (.int .u64 (n : Int)))) := put1 (Upd.refl (fun k => k = w.heap.size + 1 + 1) w5) 2 _
  have hcc : w5.cell? ⟨w.heap.size + 1 + 1, 2, none⟩ = some ((base 0 0 0 0).getD 2 undef) := by rw [HR5.out.cell, HBLe.out]; rfl
  have hff : w5.frozen? ⟨w.heap.size + 1 + 1, 2, none⟩ = false := HR5.out.frozen 2
  have HLLe := Lib.hid hLL
  have HLAe := Lib.hid hLA
  clear hLL hLA
  go_wp2_with (first
    | ((with_reducible refine wpList_load_row (o := ⟨some 82, _, _, _, _, _⟩) ?_ 54 (.tmp 5) ?_ (w.heap.size + 1 + 1) ?_ 54 LA (0, 0) _ HRs.out Try.underlying54 ?_ HLs.out ?_); rfl; rfl; rfl; rfl)
    | ((with_reducible refine wpList_store_new (o := ⟨none, .store 54 (.tmp 4) (.tmp 82), _, _, _, _⟩) ?_ _ (.tmp 4) (.tmp 82) ?_ (w.heap.size + 1) LA ?_ ?_ 54 ZO HYs.out HLs.out HLz.out HL1.out ?_); rfl; rfl; rfl; rfl; intro w6 Hg6 Hu6))
  have HU56 : Hid (Upd (fun k => k = w.heap.size + 1 ∨ k = w.heap.size + 1 + 1) w5 w6) := (HUs.out.mono (fun k _ e => .inr e)).trans (Hu6.out.mono (fun k _ e => .inl (.inl e)))
  have HU46 : Hid (Upd (fun k => k = r ∨ k = w.heap.size + 1 ∨ k = w.heap.size + 1 + 1) w4 w6) := (HU5.out.mono (fun k _ e => .inl e)).trans (HU56.out.mono (fun k _ e => .inl (.inr e)))
  have HU6 : Hid (Upd (fun k => k = r) w w6) := (HU04.out.mono (fun _ _ e => e.elim)).trans (HU46.out.mono (fun k _ e => by
    rcases e with e | e | e
    · exact .inl e
    · exact .inr (by omega)
    · exact .inr (by omega)))
  refine bodyPost_ret (results_cell_row rfl _ _ (w.heap.size + 1) 54 LA (0, 0) _ rfl Hg6.out Try.underlying54 rfl HLs.out) rfl ?_
  have hrb := Hrb.out
  refine ⟨LL, by rw [HLAe.out], HLlen.out, HLone.out, ?_, HU6.out, ?_⟩
  · have h := Hrd5.out.upd HU56.out (by omega) (fun k hk => by have := Hvb.out k hk; omega)
    exact h
  · intro a ha h0
    subst ha
    obtain ⟨a', e1, e2, e3, e4⟩ := step_eq (W := 8) h0
    refine ⟨a', e1, e2, e3, ?_⟩
    rw [← e4, ← Hn.out, HLLe.out, HBLe.out]
    intro w' b v l' hu' hw' hb' hv' hlen
    exact lays_4 b v l' n _ _ _ _ _ _ _ _ _ _ w' hw' (by rw [Hn.out]; exact takeM_lt 8 l (a, 0)) (by omega)

set_option maxHeartbeats 4000000 in
set_option maxRecDepth 100000 in
theorem again_5 (r : Nat) (rv : Value) (l : List UInt8) (s : Nat × Int) (cs : List Value) (many most each : Int) (w : World) (hr : Rd w r rv l s) (hl : l.length ≤ 140737488351232) (hcs : OpC cs (5, many, most, each)) :
    Calls Try.prog 39 #[.pointer (some ⟨r, 0, none⟩), .agg cs.toArray] w (AgainAt 5 most each many r rv l s w) := by
  have hrb : r < w.heap.size := lt_of_block hr.1
  have hvb : ∀ k, own rv k → k < w.heap.size := fun k hk => (hr.2.1.lt k hk).2
  obtain ⟨X, hX⟩ : ∃ X, X = cs.toArray := ⟨_, rfl⟩
  obtain ⟨w1, hw1⟩ : ∃ x, x = w.alloc (.cells X 54) := ⟨_, rfl⟩
  obtain ⟨w2, hw2⟩ : ∃ x, x = w1.alloc (.cells ZO 54) := ⟨_, rfl⟩
  obtain ⟨w3, hw3⟩ : ∃ x, x = w2.alloc (.cells ZO 54) := ⟨_, rfl⟩
  have hs1 : w1.heap.size = w.heap.size + 1 := by rw [hw1]; simp
  have hs2 : w2.heap.size = w.heap.size + 1 + 1 := by rw [hw2]; simp; omega
  have hs3 : w3.heap.size = w.heap.size + 3 := by rw [hw3]; simp; omega
  have hrow : w1.heap[w.heap.size]? = some (.cells cs.toArray 54 (0, 0)) := by rw [hw1, hX]; exact heap_alloc_new w _
  have hcell : ∀ i x, cs[i]? = some x → w1.cell? ⟨w.heap.size, i, none⟩ = some x := fun i x h => by rw [cell_of_row _ _ _ _ _ _ hrow]; simpa using h
  have hu01 : Upd (fun _ => False) w w1 := by rw [hw1]; exact (Upd.refl _ w).alloc _
  have hu12 : Upd (fun _ => False) w1 w2 := by rw [hw2]; exact (Upd.refl _ w1).alloc _
  have hu23 : Upd (fun _ => False) w2 w3 := by rw [hw3]; exact (Upd.refl _ w2).alloc _
  have hu13 : Upd (fun _ => False) w1 w3 := hu12.trans (hu23.mono (fun _ _ e => e.elim))
  have b0 : w2.cell? ⟨w.heap.size, 0, none⟩ = some (.int .i64 5) := hu12.cell (hcell 0 _ hcs.c0) id
  have b3 : w2.cell? ⟨w.heap.size, 3, none⟩ = some (.int .i64 many) := hu12.cell (hcell 3 _ hcs.c3) id
  have b10 : w2.cell? ⟨w.heap.size, 10, none⟩ = some (.int .i64 most) := hu12.cell (hcell 10 _ hcs.c10) id
  have b11 : w2.cell? ⟨w.heap.size, 11, none⟩ = some (.int .i64 each) := hu12.cell (hcell 11 _ hcs.c11) id
  have HB0 : Hid (∀ w', Upd (fun k => w.heap.size < k) w1 w' → w'.cell? ⟨w.heap.size, 0, none⟩ = some (.int .i64 5)) := fun w' hu => hu.cell (hcell 0 _ hcs.c0) (by simp)
  have HB3 : Hid (∀ w', Upd (fun k => w.heap.size < k) w1 w' → w'.cell? ⟨w.heap.size, 3, none⟩ = some (.int .i64 many)) := fun w' hu => hu.cell (hcell 3 _ hcs.c3) (by simp)
  have HB10 : Hid (∀ w', Upd (fun k => w.heap.size < k) w1 w' → w'.cell? ⟨w.heap.size, 10, none⟩ = some (.int .i64 most)) := fun w' hu => hu.cell (hcell 10 _ hcs.c10) (by simp)
  have HB11 : Hid (∀ w', Upd (fun k => w.heap.size < k) w1 w' → w'.cell? ⟨w.heap.size, 11, none⟩ = some (.int .i64 each)) := fun w' hu => hu.cell (hcell 11 _ hcs.c11) (by simp)
  have HZ3 : Hid (w3.heap[w.heap.size + 1 + 1]? = some (.cells ZO 54 (0, 0))) := by show _ = _; rw [← hs2, hw3]; exact heap_alloc_new w2 _
  have HY3 : Hid (w3.heap[w.heap.size + 1]? = some (.cells ZO 54 (0, 0))) := by
    have h : w2.heap[w.heap.size + 1]? = some (.cells ZO 54 (0, 0)) := by rw [← hs1, hw2]; exact heap_alloc_new w1 _
    exact (hu23.block _ (by omega) id).trans h
  obtain ⟨BL, hBL⟩ : ∃ x, x = base 5 many most each := ⟨_, rfl⟩
  have hBA : ((((ZO.setIfInBounds 0 (.int .i64 5)).setIfInBounds 10 (.int .i64 most)).setIfInBounds 11 (.int .i64 each)).setIfInBounds 3 (.int .i64 many)) = BL.toArray := by rw [hBL]; exact set_base 5 many most each
  have HBs : Hid ((Try.prog.info? 54).map (·.size) = some (((((ZO.setIfInBounds 0 (.int .i64 5)).setIfInBounds 10 (.int .i64 most)).setIfInBounds 11 (.int .i64 each)).setIfInBounds 3 (.int .i64 many))).size) := by show _ = _; rw [hBA, sizeO, hBL]; rfl
  have HBl : Hid (ZO.size = (((((ZO.setIfInBounds 0 (.int .i64 5)).setIfInBounds 10 (.int .i64 most)).setIfInBounds 11 (.int .i64 each)).setIfInBounds 3 (.int .i64 many))).size) := by show _ = _; rw [hBA, hBL]; rfl
  have HB1 : Hid ((((((ZO.setIfInBounds 0 (.int .i64 5)).setIfInBounds 10 (.int .i64 most)).setIfInBounds 11 (.int .i64 each)).setIfInBounds 3 (.int .i64 many))).all (·.oneCell') = true) := by show _ = _; rw [hBA, hBL]; simpa using base_one 5 many most each
  have HBA := Lib.hid hBA
  have HBLe := Lib.hid hBL
  have Hr := Lib.hid hr
  have Hl := Lib.hid hl
  have Hrb := Lib.hid hrb
  have Hvb := Lib.hid hvb
  have Hs3 := Lib.hid hs3
  have HU13 : Hid (Upd (fun k => w.heap.size < k) w1 w3) := hu13.mono (fun _ _ e => e.elim)
  have HU03 : Hid (Upd (fun _ => False) w w3) := hu01.trans (hu13.mono (fun _ _ e => e.elim))
  have hz := zeroO
  rw [← hX]
  subst hw3
  subst hw2
  subst hw1
  clear hX hs1 hs2 hs3 hrow hcell hu01 hu12 hu23 hu13 hcs hBL hBA hr hl hrb hvb
  go_enter Try.func39, Try.ntmps39
  go_wp2_with (first
    | ((with_reducible refine wpList_store_new (o := ⟨none, .store 54 (.tmp 5) (.tmp 14), _, _, _, _⟩) ?_ _ (.tmp 5) (.tmp 14) ?_ (w.heap.size + 1 + 1) ((((ZO.setIfInBounds 0 (.int .i64 5)).setIfInBounds 10 (.int .i64 most)).setIfInBounds 11 (.int .i64 each)).setIfInBounds 3 (.int .i64 many)) ?_ ?_ 54 ZO HZ3.out HBs.out HBl.out HB1.out ?_); rfl; rfl; rfl; rfl; intro w4 Hg4 Hu4; clear b0 b3 b10 b11; have HU14 : Hid (Upd (fun k => w.heap.size < k) _ w4) := HU13.out.trans (Hu4.out.mono (fun k _ e => .inl (by omega))); have b0 := HB0.out w4 HU14.out; have b3 := HB3.out w4 HU14.out; have b10 := HB10.out w4 HU14.out; have b11 := HB11.out w4 HU14.out))
  have HU04 : Hid (Upd (fun _ => False) w w4) := HU03.out.trans (Hu4.out.mono (fun k _ e => .inr (by omega)))
  have HY4 : Hid (w4.heap[w.heap.size + 1]? = some (.cells ZO 54 (0, 0))) := (Hu4.out.block _ (lt_of_block HY3.out) (by omega)).trans HY3.out
  have HR4 : Hid (Row w4 (w.heap.size + 1 + 1) 54 BL) := by show _ = _; rw [← HBA.out]; exact Hg4.out
  have Hrd4 : Hid (Rd w4 r rv l s) := Hr.out.upd HU04.out id (fun _ _ => id)
  refine (rflag_any r rv l s w4 Hrd4.out (by have := Hl.out; omega)).mono ?_
  rintro e w5 ⟨rfl, hrd5, hu5⟩
  obtain ⟨y, hy⟩ : ∃ y, y = (flagM l s).1 := ⟨_, rfl⟩
  rw [← hy]
  have Hy := Lib.hid hy
  have Hrd5 : Hid (Rd w5 r rv l (stepM 5 most each many l s)) := hrd5
  have HU5 := Lib.hid hu5
  clear hy hrd5 hu5
  have HR5 : Hid (Row w5 (w.heap.size + 1 + 1) 54 BL) := HR4.out.upd HU5.out (by have := Hrb.out; omega)
  have HY5 : Hid (w5.heap[w.heap.size + 1]? = some (.cells ZO 54 (0, 0))) := (HU5.out.block _ (lt_of_block HY4.out) (by have := Hrb.out; omega)).trans HY4.out
  obtain ⟨LL, hLL⟩ : ∃ x, x = BL.set 4 (.bool y) := ⟨_, rfl⟩
  obtain ⟨LA, hLA⟩ : ∃ x, x = LL.toArray := ⟨_, rfl⟩
  have HLlen : Hid (LL.length = 12) := by show _ = _; rw [hLL, List.length_set, HBLe.out]; rfl
  have HLone : Hid (LL.all (·.oneCell') = true) := by show _ = _; rw [hLL, HBLe.out]; exact set_one (base_one _ _ _ _) rfl
  have HLs : Hid ((Try.prog.info? 54).map (·.size) = some LA.size) := by show _ = _; rw [sizeO, hLA]; simp [HLlen.out]
  have HLz : Hid (ZO.size = LA.size) := by show _ = _; rw [hLA]; simp [HLlen.out, ZO]
  have HL1 : Hid (LA.all (·.oneCell') = true) := by show _ = _; rw [hLA]; simpa using HLone.out
  have HRs : Hid ((w5.setCell ⟨w.heap.size + 1 + 1, 4, none⟩ (.bool y)).heap[w.heap.size + 1 + 1]? = some (.cells LA 54 (0, 0))) := by show _ = _; rw [hLA, hLL]; exact HR5.out.set 4 _
  have HYs : Hid ((w5.setCell ⟨w.heap.size + 1 + 1, 4, none⟩ (.bool y)).heap[w.heap.size + 1]? = some (.cells ZO 54 (0, 0))) := (heap_setCell_other w5 _ _ _ (by simp)).trans HY5.out
  have HUs : Hid (Upd (fun k => k = w.heap.size + 1 + 1) w5 (w5.setCell ⟨w.heap.size + 1 + 1, 4, none⟩ (.bool y))) := put1 (Upd.refl (fun k => k = w.heap.size + 1 + 1) w5) 4 _
  have hcc : w5.cell? ⟨w.heap.size + 1 + 1, 4, none⟩ = some ((base 0 0 0 0).getD 4 undef) := by rw [HR5.out.cell, HBLe.out]; rfl
  have hff : w5.frozen? ⟨w.heap.size + 1 + 1, 4, none⟩ = false := HR5.out.frozen 4
  have HLLe := Lib.hid hLL
  have HLAe := Lib.hid hLA
  clear hLL hLA
  go_wp2_with (first
    | ((with_reducible refine wpList_load_row (o := ⟨some 82, _, _, _, _, _⟩) ?_ 54 (.tmp 5) ?_ (w.heap.size + 1 + 1) ?_ 54 LA (0, 0) _ HRs.out Try.underlying54 ?_ HLs.out ?_); rfl; rfl; rfl; rfl)
    | ((with_reducible refine wpList_store_new (o := ⟨none, .store 54 (.tmp 4) (.tmp 82), _, _, _, _⟩) ?_ _ (.tmp 4) (.tmp 82) ?_ (w.heap.size + 1) LA ?_ ?_ 54 ZO HYs.out HLs.out HLz.out HL1.out ?_); rfl; rfl; rfl; rfl; intro w6 Hg6 Hu6))
  have HU56 : Hid (Upd (fun k => k = w.heap.size + 1 ∨ k = w.heap.size + 1 + 1) w5 w6) := (HUs.out.mono (fun k _ e => .inr e)).trans (Hu6.out.mono (fun k _ e => .inl (.inl e)))
  have HU46 : Hid (Upd (fun k => k = r ∨ k = w.heap.size + 1 ∨ k = w.heap.size + 1 + 1) w4 w6) := (HU5.out.mono (fun k _ e => .inl e)).trans (HU56.out.mono (fun k _ e => .inl (.inr e)))
  have HU6 : Hid (Upd (fun k => k = r) w w6) := (HU04.out.mono (fun _ _ e => e.elim)).trans (HU46.out.mono (fun k _ e => by
    rcases e with e | e | e
    · exact .inl e
    · exact .inr (by omega)
    · exact .inr (by omega)))
  refine bodyPost_ret (results_cell_row rfl _ _ (w.heap.size + 1) 54 LA (0, 0) _ rfl Hg6.out Try.underlying54 rfl HLs.out) rfl ?_
  have hrb := Hrb.out
  refine ⟨LL, by rw [HLAe.out], HLlen.out, HLone.out, ?_, HU6.out, ?_⟩
  · have h := Hrd5.out.upd HU56.out (by omega) (fun k hk => by have := Hvb.out k hk; omega)
    exact h
  · intro a ha h0
    subst ha
    obtain ⟨e1, e2, e3, e4⟩ := went_flag l a h0
    refine ⟨a + 1, e1, e2, e3, ?_⟩
    rw [← e4, ← Hy.out, HLLe.out, HBLe.out]
    intro w' b v l' hu' hw' hb' hv' hlen
    exact lays_5 b v l' y _ _ _ _ _ _ _ _ _ _ w' hw' (by omega)

set_option maxHeartbeats 4000000 in
set_option maxRecDepth 100000 in
theorem again_8 (r : Nat) (rv : Value) (l : List UInt8) (s : Nat × Int) (cs : List Value) (many most each : Int) (w : World) (hr : Rd w r rv l s) (hl : l.length ≤ 140737488351232) (hcs : OpC cs (8, many, most, each)) :
    Calls Try.prog 39 #[.pointer (some ⟨r, 0, none⟩), .agg cs.toArray] w (AgainAt 8 most each many r rv l s w) := by
  have hrb : r < w.heap.size := lt_of_block hr.1
  have hvb : ∀ k, own rv k → k < w.heap.size := fun k hk => (hr.2.1.lt k hk).2
  obtain ⟨X, hX⟩ : ∃ X, X = cs.toArray := ⟨_, rfl⟩
  obtain ⟨w1, hw1⟩ : ∃ x, x = w.alloc (.cells X 54) := ⟨_, rfl⟩
  obtain ⟨w2, hw2⟩ : ∃ x, x = w1.alloc (.cells ZO 54) := ⟨_, rfl⟩
  obtain ⟨w3, hw3⟩ : ∃ x, x = w2.alloc (.cells ZO 54) := ⟨_, rfl⟩
  have hs1 : w1.heap.size = w.heap.size + 1 := by rw [hw1]; simp
  have hs2 : w2.heap.size = w.heap.size + 1 + 1 := by rw [hw2]; simp; omega
  have hs3 : w3.heap.size = w.heap.size + 3 := by rw [hw3]; simp; omega
  have hrow : w1.heap[w.heap.size]? = some (.cells cs.toArray 54 (0, 0)) := by rw [hw1, hX]; exact heap_alloc_new w _
  have hcell : ∀ i x, cs[i]? = some x → w1.cell? ⟨w.heap.size, i, none⟩ = some x := fun i x h => by rw [cell_of_row _ _ _ _ _ _ hrow]; simpa using h
  have hu01 : Upd (fun _ => False) w w1 := by rw [hw1]; exact (Upd.refl _ w).alloc _
  have hu12 : Upd (fun _ => False) w1 w2 := by rw [hw2]; exact (Upd.refl _ w1).alloc _
  have hu23 : Upd (fun _ => False) w2 w3 := by rw [hw3]; exact (Upd.refl _ w2).alloc _
  have hu13 : Upd (fun _ => False) w1 w3 := hu12.trans (hu23.mono (fun _ _ e => e.elim))
  have b0 : w2.cell? ⟨w.heap.size, 0, none⟩ = some (.int .i64 8) := hu12.cell (hcell 0 _ hcs.c0) id
  have b3 : w2.cell? ⟨w.heap.size, 3, none⟩ = some (.int .i64 many) := hu12.cell (hcell 3 _ hcs.c3) id
  have b10 : w2.cell? ⟨w.heap.size, 10, none⟩ = some (.int .i64 most) := hu12.cell (hcell 10 _ hcs.c10) id
  have b11 : w2.cell? ⟨w.heap.size, 11, none⟩ = some (.int .i64 each) := hu12.cell (hcell 11 _ hcs.c11) id
  have HB0 : Hid (∀ w', Upd (fun k => w.heap.size < k) w1 w' → w'.cell? ⟨w.heap.size, 0, none⟩ = some (.int .i64 8)) := fun w' hu => hu.cell (hcell 0 _ hcs.c0) (by simp)
  have HB3 : Hid (∀ w', Upd (fun k => w.heap.size < k) w1 w' → w'.cell? ⟨w.heap.size, 3, none⟩ = some (.int .i64 many)) := fun w' hu => hu.cell (hcell 3 _ hcs.c3) (by simp)
  have HB10 : Hid (∀ w', Upd (fun k => w.heap.size < k) w1 w' → w'.cell? ⟨w.heap.size, 10, none⟩ = some (.int .i64 most)) := fun w' hu => hu.cell (hcell 10 _ hcs.c10) (by simp)
  have HB11 : Hid (∀ w', Upd (fun k => w.heap.size < k) w1 w' → w'.cell? ⟨w.heap.size, 11, none⟩ = some (.int .i64 each)) := fun w' hu => hu.cell (hcell 11 _ hcs.c11) (by simp)
  have HZ3 : Hid (w3.heap[w.heap.size + 1 + 1]? = some (.cells ZO 54 (0, 0))) := by show _ = _; rw [← hs2, hw3]; exact heap_alloc_new w2 _
  have HY3 : Hid (w3.heap[w.heap.size + 1]? = some (.cells ZO 54 (0, 0))) := by
    have h : w2.heap[w.heap.size + 1]? = some (.cells ZO 54 (0, 0)) := by rw [← hs1, hw2]; exact heap_alloc_new w1 _
    exact (hu23.block _ (by omega) id).trans h
  obtain ⟨BL, hBL⟩ : ∃ x, x = base 8 many most each := ⟨_, rfl⟩
  have hBA : ((((ZO.setIfInBounds 0 (.int .i64 8)).setIfInBounds 10 (.int .i64 most)).setIfInBounds 11 (.int .i64 each)).setIfInBounds 3 (.int .i64 many)) = BL.toArray := by rw [hBL]; exact set_base 8 many most each
  have HBs : Hid ((Try.prog.info? 54).map (·.size) = some (((((ZO.setIfInBounds 0 (.int .i64 8)).setIfInBounds 10 (.int .i64 most)).setIfInBounds 11 (.int .i64 each)).setIfInBounds 3 (.int .i64 many))).size) := by show _ = _; rw [hBA, sizeO, hBL]; rfl
  have HBl : Hid (ZO.size = (((((ZO.setIfInBounds 0 (.int .i64 8)).setIfInBounds 10 (.int .i64 most)).setIfInBounds 11 (.int .i64 each)).setIfInBounds 3 (.int .i64 many))).size) := by show _ = _; rw [hBA, hBL]; rfl
  have HB1 : Hid ((((((ZO.setIfInBounds 0 (.int .i64 8)).setIfInBounds 10 (.int .i64 most)).setIfInBounds 11 (.int .i64 each)).setIfInBounds 3 (.int .i64 many))).all (·.oneCell') = true) := by show _ = _; rw [hBA, hBL]; simpa using base_one 8 many most each
  have HBA := Lib.hid hBA
  have HBLe := Lib.hid hBL
  have Hr := Lib.hid hr
  have Hl := Lib.hid hl
  have Hrb := Lib.hid hrb
  have Hvb := Lib.hid hvb
  have Hs3 := Lib.hid hs3
  have HU13 : Hid (Upd (fun k => w.heap.size < k) w1 w3) := hu13.mono (fun _ _ e => e.elim)
  have HU03 : Hid (Upd (fun _ => False) w w3) := hu01.trans (hu13.mono (fun _ _ e => e.elim))
  have hz := zeroO
  rw [← hX]
  subst hw3
  subst hw2
  subst hw1
  clear hX hs1 hs2 hs3 hrow hcell hu01 hu12 hu23 hu13 hcs hBL hBA hr hl hrb hvb
  go_enter Try.func39, Try.ntmps39
  go_wp2_with (first
    | ((with_reducible refine wpList_store_new (o := ⟨none, .store 54 (.tmp 5) (.tmp 14), _, _, _, _⟩) ?_ _ (.tmp 5) (.tmp 14) ?_ (w.heap.size + 1 + 1) ((((ZO.setIfInBounds 0 (.int .i64 8)).setIfInBounds 10 (.int .i64 most)).setIfInBounds 11 (.int .i64 each)).setIfInBounds 3 (.int .i64 many)) ?_ ?_ 54 ZO HZ3.out HBs.out HBl.out HB1.out ?_); rfl; rfl; rfl; rfl; intro w4 Hg4 Hu4; clear b0 b3 b10 b11; have HU14 : Hid (Upd (fun k => w.heap.size < k) _ w4) := HU13.out.trans (Hu4.out.mono (fun k _ e => .inl (by omega))); have b0 := HB0.out w4 HU14.out; have b3 := HB3.out w4 HU14.out; have b10 := HB10.out w4 HU14.out; have b11 := HB11.out w4 HU14.out))
  have HU04 : Hid (Upd (fun _ => False) w w4) := HU03.out.trans (Hu4.out.mono (fun k _ e => .inr (by omega)))
  have HY4 : Hid (w4.heap[w.heap.size + 1]? = some (.cells ZO 54 (0, 0))) := (Hu4.out.block _ (lt_of_block HY3.out) (by omega)).trans HY3.out
  have HR4 : Hid (Row w4 (w.heap.size + 1 + 1) 54 BL) := by show _ = _; rw [← HBA.out]; exact Hg4.out
  have Hrd4 : Hid (Rd w4 r rv l s) := Hr.out.upd HU04.out id (fun _ _ => id)
  refine (rtext_any most r rv l s w4 Hrd4.out (by have := Hl.out; omega)).mono ?_
  rintro e w5 ⟨rfl, hrd5, hu5⟩
  obtain ⟨t, ht⟩ : ∃ t, t = (txtM most l s).1 := ⟨_, rfl⟩
  rw [← ht]
  obtain ⟨bt, hbt⟩ : ∃ x : ByteArray, x = ⟨t.toArray⟩ := ⟨_, rfl⟩
  rw [← hbt]
  have Ht := Lib.hid ht
  have Hbt := Lib.hid hbt
  have Hrd5 : Hid (Rd w5 r rv l (stepM 8 most each many l s)) := hrd5
  have HU5 := Lib.hid hu5
  clear ht hbt hrd5 hu5
  have HR5 : Hid (Row w5 (w.heap.size + 1 + 1) 54 BL) := HR4.out.upd HU5.out (by have := Hrb.out; omega)
  have HY5 : Hid (w5.heap[w.heap.size + 1]? = some (.cells ZO 54 (0, 0))) := (HU5.out.block _ (lt_of_block HY4.out) (by have := Hrb.out; omega)).trans HY4.out
  obtain ⟨LL, hLL⟩ : ∃ x, x = BL.set 8 (.string bt) := ⟨_, rfl⟩
  obtain ⟨LA, hLA⟩ : ∃ x, x = LL.toArray := ⟨_, rfl⟩
  have HLlen : Hid (LL.length = 12) := by show _ = _; rw [hLL, List.length_set, HBLe.out]; rfl
  have HLone : Hid (LL.all (·.oneCell') = true) := by show _ = _; rw [hLL, HBLe.out]; exact set_one (base_one _ _ _ _) rfl
  have HLs : Hid ((Try.prog.info? 54).map (·.size) = some LA.size) := by show _ = _; rw [sizeO, hLA]; simp [HLlen.out]
  have HLz : Hid (ZO.size = LA.size) := by show _ = _; rw [hLA]; simp [HLlen.out, ZO]
  have HL1 : Hid (LA.all (·.oneCell') = true) := by show _ = _; rw [hLA]; simpa using HLone.out
  have HRs : Hid ((w5.setCell ⟨w.heap.size + 1 + 1, 8, none⟩ (.string bt)).heap[w.heap.size + 1 + 1]? = some (.cells LA 54 (0, 0))) := by show _ = _; rw [hLA, hLL]; exact HR5.out.set 8 _
  have HYs : Hid ((w5.setCell ⟨w.heap.size + 1 + 1, 8, none⟩ (.string bt)).heap[w.heap.size + 1]? = some (.cells ZO 54 (0, 0))) := (heap_setCell_other w5 _ _ _ (by simp)).trans HY5.out
  have HUs : Hid (Upd (fun k => k = w.heap.size + 1 + 1) w5 (w5.setCell ⟨w.heap.size + 1 + 1, 8, none⟩ (.string bt))) := put1 (Upd.refl (fun k => k = w.heap.size + 1 + 1) w5) 8 _
  have hcc : w5.cell? ⟨w.heap.size + 1 + 1, 8, none⟩ = some ((base 0 0 0 0).getD 8 undef) := by rw [HR5.out.cell, HBLe.out]; rfl
  have hff : w5.frozen? ⟨w.heap.size + 1 + 1, 8, none⟩ = false := HR5.out.frozen 8
  have HLLe := Lib.hid hLL
  have HLAe := Lib.hid hLA
  clear hLL hLA
  go_wp2_with (first
    | ((with_reducible refine wpList_load_row (o := ⟨some 82, _, _, _, _, _⟩) ?_ 54 (.tmp 5) ?_ (w.heap.size + 1 + 1) ?_ 54 LA (0, 0) _ HRs.out Try.underlying54 ?_ HLs.out ?_); rfl; rfl; rfl; rfl)
    | ((with_reducible refine wpList_store_new (o := ⟨none, .store 54 (.tmp 4) (.tmp 82), _, _, _, _⟩) ?_ _ (.tmp 4) (.tmp 82) ?_ (w.heap.size + 1) LA ?_ ?_ 54 ZO HYs.out HLs.out HLz.out HL1.out ?_); rfl; rfl; rfl; rfl; intro w6 Hg6 Hu6))
  have HU56 : Hid (Upd (fun k => k = w.heap.size + 1 ∨ k = w.heap.size + 1 + 1) w5 w6) := (HUs.out.mono (fun k _ e => .inr e)).trans (Hu6.out.mono (fun k _ e => .inl (.inl e)))
  have HU46 : Hid (Upd (fun k => k = r ∨ k = w.heap.size + 1 ∨ k = w.heap.size + 1 + 1) w4 w6) := (HU5.out.mono (fun k _ e => .inl e)).trans (HU56.out.mono (fun k _ e => .inl (.inr e)))
  have HU6 : Hid (Upd (fun k => k = r) w w6) := (HU04.out.mono (fun _ _ e => e.elim)).trans (HU46.out.mono (fun k _ e => by
    rcases e with e | e | e
    · exact .inl e
    · exact .inr (by omega)
    · exact .inr (by omega)))
  refine bodyPost_ret (results_cell_row rfl _ _ (w.heap.size + 1) 54 LA (0, 0) _ rfl Hg6.out Try.underlying54 rfl HLs.out) rfl ?_
  have hrb := Hrb.out
  refine ⟨LL, by rw [HLAe.out], HLlen.out, HLone.out, ?_, HU6.out, ?_⟩
  · have h := Hrd5.out.upd HU56.out (by omega) (fun k hk => by have := Hvb.out k hk; omega)
    exact h
  · intro a ha h0
    subst ha
    obtain ⟨t', e1, e2, e3, e4, e5⟩ := went_txt most l a h0
    have hte : t = t' := by rw [Ht.out, e1]
    subst hte
    refine ⟨a + 2 + t.length, congrArg Prod.snd e1, e3, e4, ?_⟩
    rw [← e5, HLLe.out, HBLe.out, Hbt.out]
    intro w' b v l' hu' hw' hb' hv' hlen
    rw [List.length_append] at hlen
    exact lays_8 b v l' t most _ _ _ _ _ _ _ _ _ w' hw' e2 (by omega)

set_option maxHeartbeats 4000000 in
set_option maxRecDepth 100000 in
theorem again_7 (r : Nat) (rv : Value) (l : List UInt8) (s : Nat × Int) (cs : List Value) (many most each : Int) (w : World) (hr : Rd w r rv l s) (hl : l.length ≤ 140737488351232) (hcs : OpC cs (7, many, most, each)) :
    Calls Try.prog 39 #[.pointer (some ⟨r, 0, none⟩), .agg cs.toArray] w (AgainAt 7 most each many r rv l s w) := by
  have hrb : r < w.heap.size := lt_of_block hr.1
  have hvb : ∀ k, own rv k → k < w.heap.size := fun k hk => (hr.2.1.lt k hk).2
  obtain ⟨X, hX⟩ : ∃ X, X = cs.toArray := ⟨_, rfl⟩
  obtain ⟨w1, hw1⟩ : ∃ x, x = w.alloc (.cells X 54) := ⟨_, rfl⟩
  obtain ⟨w2, hw2⟩ : ∃ x, x = w1.alloc (.cells ZO 54) := ⟨_, rfl⟩
  obtain ⟨w3, hw3⟩ : ∃ x, x = w2.alloc (.cells ZO 54) := ⟨_, rfl⟩
  have hs1 : w1.heap.size = w.heap.size + 1 := by rw [hw1]; simp
  have hs2 : w2.heap.size = w.heap.size + 1 + 1 := by rw [hw2]; simp; omega
  have hs3 : w3.heap.size = w.heap.size + 3 := by rw [hw3]; simp; omega
  have hrow : w1.heap[w.heap.size]? = some (.cells cs.toArray 54 (0, 0)) := by rw [hw1, hX]; exact heap_alloc_new w _
  have hcell : ∀ i x, cs[i]? = some x → w1.cell? ⟨w.heap.size, i, none⟩ = some x := fun i x h => by rw [cell_of_row _ _ _ _ _ _ hrow]; simpa using h
  have hu01 : Upd (fun _ => False) w w1 := by rw [hw1]; exact (Upd.refl _ w).alloc _
  have hu12 : Upd (fun _ => False) w1 w2 := by rw [hw2]; exact (Upd.refl _ w1).alloc _
  have hu23 : Upd (fun _ => False) w2 w3 := by rw [hw3]; exact (Upd.refl _ w2).alloc _
  have hu13 : Upd (fun _ => False) w1 w3 := hu12.trans (hu23.mono (fun _ _ e => e.elim))
  have b0 : w2.cell? ⟨w.heap.size, 0, none⟩ = some (.int .i64 7) := hu12.cell (hcell 0 _ hcs.c0) id
  have b3 : w2.cell? ⟨w.heap.size, 3, none⟩ = some (.int .i64 many) := hu12.cell (hcell 3 _ hcs.c3) id
  have b10 : w2.cell? ⟨w.heap.size, 10, none⟩ = some (.int .i64 most) := hu12.cell (hcell 10 _ hcs.c10) id
  have b11 : w2.cell? ⟨w.heap.size, 11, none⟩ = some (.int .i64 each) := hu12.cell (hcell 11 _ hcs.c11) id
  have HB0 : Hid (∀ w', Upd (fun k => w.heap.size < k) w1 w' → w'.cell? ⟨w.heap.size, 0, none⟩ = some (.int .i64 7)) := fun w' hu => hu.cell (hcell 0 _ hcs.c0) (by simp)
  have HB3 : Hid (∀ w', Upd (fun k => w.heap.size < k) w1 w' → w'.cell? ⟨w.heap.size, 3, none⟩ = some (.int .i64 many)) := fun w' hu => hu.cell (hcell 3 _ hcs.c3) (by simp)
  have HB10 : Hid (∀ w', Upd (fun k => w.heap.size < k) w1 w' → w'.cell? ⟨w.heap.size, 10, none⟩ = some (.int .i64 most)) := fun w' hu => hu.cell (hcell 10 _ hcs.c10) (by simp)
  have HB11 : Hid (∀ w', Upd (fun k => w.heap.size < k) w1 w' → w'.cell? ⟨w.heap.size, 11, none⟩ = some (.int .i64 each)) := fun w' hu => hu.cell (hcell 11 _ hcs.c11) (by simp)
  have HZ3 : Hid (w3.heap[w.heap.size + 1 + 1]? = some (.cells ZO 54 (0, 0))) := by show _ = _; rw [← hs2, hw3]; exact heap_alloc_new w2 _
  have HY3 : Hid (w3.heap[w.heap.size + 1]? = some (.cells ZO 54 (0, 0))) := by
    have h : w2.heap[w.heap.size + 1]? = some (.cells ZO 54 (0, 0)) := by rw [← hs1, hw2]; exact heap_alloc_new w1 _
    exact (hu23.block _ (by omega) id).trans h
  obtain ⟨BL, hBL⟩ : ∃ x, x = base 7 many most each := ⟨_, rfl⟩
  have hBA : ((((ZO.setIfInBounds 0 (.int .i64 7)).setIfInBounds 10 (.int .i64 most)).setIfInBounds 11 (.int .i64 each)).setIfInBounds 3 (.int .i64 many)) = BL.toArray := by rw [hBL]; exact set_base 7 many most each
  have HBs : Hid ((Try.prog.info? 54).map (·.size) = some (((((ZO.setIfInBounds 0 (.int .i64 7)).setIfInBounds 10 (.int .i64 most)).setIfInBounds 11 (.int .i64 each)).setIfInBounds 3 (.int .i64 many))).size) := by show _ = _; rw [hBA, sizeO, hBL]; rfl
  have HBl : Hid (ZO.size = (((((ZO.setIfInBounds 0 (.int .i64 7)).setIfInBounds 10 (.int .i64 most)).setIfInBounds 11 (.int .i64 each)).setIfInBounds 3 (.int .i64 many))).size) := by show _ = _; rw [hBA, hBL]; rfl
  have HB1 : Hid ((((((ZO.setIfInBounds 0 (.int .i64 7)).setIfInBounds 10 (.int .i64 most)).setIfInBounds 11 (.int .i64 each)).setIfInBounds 3 (.int .i64 many))).all (·.oneCell') = true) := by show _ = _; rw [hBA, hBL]; simpa using base_one 7 many most each
  have HBA := Lib.hid hBA
  have HBLe := Lib.hid hBL
  have Hr := Lib.hid hr
  have Hl := Lib.hid hl
  have Hrb := Lib.hid hrb
  have Hvb := Lib.hid hvb
  have Hs3 := Lib.hid hs3
  have HU13 : Hid (Upd (fun k => w.heap.size < k) w1 w3) := hu13.mono (fun _ _ e => e.elim)
  have HU03 : Hid (Upd (fun _ => False) w w3) := hu01.trans (hu13.mono (fun _ _ e => e.elim))
  have hz := zeroO
  rw [← hX]
  subst hw3
  subst hw2
  subst hw1
  clear hX hs1 hs2 hs3 hrow hcell hu01 hu12 hu23 hu13 hcs hBL hBA hr hl hrb hvb
  go_enter Try.func39, Try.ntmps39
  go_wp2_with (first
    | ((with_reducible refine wpList_store_new (o := ⟨none, .store 54 (.tmp 5) (.tmp 14), _, _, _, _⟩) ?_ _ (.tmp 5) (.tmp 14) ?_ (w.heap.size + 1 + 1) ((((ZO.setIfInBounds 0 (.int .i64 7)).setIfInBounds 10 (.int .i64 most)).setIfInBounds 11 (.int .i64 each)).setIfInBounds 3 (.int .i64 many)) ?_ ?_ 54 ZO HZ3.out HBs.out HBl.out HB1.out ?_); rfl; rfl; rfl; rfl; intro w4 Hg4 Hu4; clear b0 b3 b10 b11; have HU14 : Hid (Upd (fun k => w.heap.size < k) _ w4) := HU13.out.trans (Hu4.out.mono (fun k _ e => .inl (by omega))); have b0 := HB0.out w4 HU14.out; have b3 := HB3.out w4 HU14.out; have b10 := HB10.out w4 HU14.out; have b11 := HB11.out w4 HU14.out))
  have HU04 : Hid (Upd (fun _ => False) w w4) := HU03.out.trans (Hu4.out.mono (fun k _ e => .inr (by omega)))
  have HY4 : Hid (w4.heap[w.heap.size + 1]? = some (.cells ZO 54 (0, 0))) := (Hu4.out.block _ (lt_of_block HY3.out) (by omega)).trans HY3.out
  have HR4 : Hid (Row w4 (w.heap.size + 1 + 1) 54 BL) := by show _ = _; rw [← HBA.out]; exact Hg4.out
  have Hrd4 : Hid (Rd w4 r rv l s) := Hr.out.upd HU04.out id (fun _ _ => id)
  have HU34 : Hid (w.heap.size + 3 ≤ w4.heap.size) := by have h := Hu4.out.size; have h3 := Hs3.out; rw [h3] at h; exact h
  refine (ReadB.raw_any many r rv l s w4 Hrd4.out (by have := Hl.out; omega)).mono ?_
  rintro e w5 ⟨ao, cap, rfl, how, hrd5, hu5⟩
  obtain ⟨xs, hxs⟩ : ∃ t, t = (nextM many l s).1 := ⟨_, rfl⟩
  rw [← hxs] at how ⊢
  obtain ⟨n, hn⟩ : ∃ n, n = xs.length := ⟨_, rfl⟩
  rw [← hn] at how ⊢
  have Hxs := Lib.hid hxs
  have Hn := Lib.hid hn
  have How := Lib.hid how
  clear how hxs hn
  have Hrd5 : Hid (Rd w5 r rv l (stepM 7 most each many l s)) := hrd5
  have HU5 := Lib.hid hu5
  clear hrd5 hu5
  have HR5 : Hid (Row w5 (w.heap.size + 1 + 1) 54 BL) := HR4.out.upd HU5.out (by have := Hrb.out; omega)
  have HY5 : Hid (w5.heap[w.heap.size + 1]? = some (.cells ZO 54 (0, 0))) := (HU5.out.block _ (lt_of_block HY4.out) (by have := Hrb.out; omega)).trans HY4.out
  obtain ⟨LL, hLL⟩ : ∃ x, x = BL.set 7 (.slice ao n cap) := ⟨_, rfl⟩
  obtain ⟨LA, hLA⟩ : ∃ x, x = LL.toArray := ⟨_, rfl⟩
  have HLlen : Hid (LL.length = 12) := by show _ = _; rw [hLL, List.length_set, HBLe.out]; rfl
  have HLone : Hid (LL.all (·.oneCell') = true) := by show _ = _; rw [hLL, HBLe.out]; exact set_one (base_one _ _ _ _) rfl
  have HLs : Hid ((Try.prog.info? 54).map (·.size) = some LA.size) := by show _ = _; rw [sizeO, hLA]; simp [HLlen.out]
  have HLz : Hid (ZO.size = LA.size) := by show _ = _; rw [hLA]; simp [HLlen.out, ZO]
  have HL1 : Hid (LA.all (·.oneCell') = true) := by show _ = _; rw [hLA]; simpa using HLone.out
  have HRs : Hid ((w5.setCell ⟨w.heap.size + 1 + 1, 7, none⟩ (.slice ao n cap)).heap[w.heap.size + 1 + 1]? = some (.cells LA 54 (0, 0))) := by show _ = _; rw [hLA, hLL]; exact HR5.out.set 7 _
  have HYs : Hid ((w5.setCell ⟨w.heap.size + 1 + 1, 7, none⟩ (.slice ao n cap)).heap[w.heap.size + 1]? = some (.cells ZO 54 (0, 0))) := (heap_setCell_other w5 _ _ _ (by simp)).trans HY5.out
  have HUs : Hid (Upd (fun k => k = w.heap.size + 1 + 1) w5 (w5.setCell ⟨w.heap.size + 1 + 1, 7, none⟩ (.slice ao n cap))) := put1 (Upd.refl (fun k => k = w.heap.size + 1 + 1) w5) 7 _
  have hcc : w5.cell? ⟨w.heap.size + 1 + 1, 7, none⟩ = some ((base 0 0 0 0).getD 7 undef) := by rw [HR5.out.cell, HBLe.out]; rfl
  have hff : w5.frozen? ⟨w.heap.size + 1 + 1, 7, none⟩ = false := HR5.out.frozen 7
  have HLLe := Lib.hid hLL
  have HLAe := Lib.hid hLA
  clear hLL hLA
  go_wp2_with (first
    | ((with_reducible refine wpList_load_row (o := ⟨some 82, _, _, _, _, _⟩) ?_ 54 (.tmp 5) ?_ (w.heap.size + 1 + 1) ?_ 54 LA (0, 0) _ HRs.out Try.underlying54 ?_ HLs.out ?_); rfl; rfl; rfl; rfl)
    | ((with_reducible refine wpList_store_new (o := ⟨none, .store 54 (.tmp 4) (.tmp 82), _, _, _, _⟩) ?_ _ (.tmp 4) (.tmp 82) ?_ (w.heap.size + 1) LA ?_ ?_ 54 ZO HYs.out HLs.out HLz.out HL1.out ?_); rfl; rfl; rfl; rfl; intro w6 Hg6 Hu6))
  have HU56 : Hid (Upd (fun k => k = w.heap.size + 1 ∨ k = w.heap.size + 1 + 1) w5 w6) := (HUs.out.mono (fun k _ e => .inr e)).trans (Hu6.out.mono (fun k _ e => .inl (.inl e)))
  have HU46 : Hid (Upd (fun k => k = r ∨ k = w.heap.size + 1 ∨ k = w.heap.size + 1 + 1) w4 w6) := (HU5.out.mono (fun k _ e => .inl e)).trans (HU56.out.mono (fun k _ e => .inl (.inr e)))
  have HU6 : Hid (Upd (fun k => k = r) w w6) := (HU04.out.mono (fun _ _ e => e.elim)).trans (HU46.out.mono (fun k _ e => by
    rcases e with e | e | e
    · exact .inl e
    · exact .inr (by omega)
    · exact .inr (by omega)))
  refine bodyPost_ret (results_cell_row rfl _ _ (w.heap.size + 1) 54 LA (0, 0) _ rfl Hg6.out Try.underlying54 rfl HLs.out) rfl ?_
  have hrb := Hrb.out
  refine ⟨LL, by rw [HLAe.out], HLlen.out, HLone.out, ?_, HU6.out, ?_⟩
  · have h := Hrd5.out.upd HU56.out (by omega) (fun k hk => by have := Hvb.out k hk; omega)
    exact h
  · intro a ha h0
    subst ha
    have hs4 := HU34.out
    have hsl : Sl w5 (.slice ao n cap) xs := by have h := How.out; rw [Hn.out] at h ⊢; exact WriterW.Sl.of_row h
    have hlt : ∀ k, own (.slice ao n cap) k → w4.heap.size ≤ k ∧ k < w5.heap.size := fun k hk => How.out.lt k hk
    have hsl6 : Sl w6 (.slice ao n cap) xs := hsl.upd HU56.out (fun k hk => by have := (hlt k hk).1; omega)
    have hz56 := HU56.out.size
    obtain ⟨a', e1, e2, e3, e4⟩ := went_raw many l a (Hr.out.2.2) h0
    refine ⟨a', e1, e2, e3, ?_⟩
    rw [← e4, ← Hxs.out, HLLe.out, HBLe.out]
    intro w' b v l' hu' hw' hb' hv' hlen
    have hz' := hu'.size
    exact lays_7 b v l' ao n cap xs _ _ _ _ _ _ _ _ _ _ w' hw' (hsl6.upd hu' (fun k hk => by have := (hlt k hk).1; omega)) (fun k hk => by have h1 := hlt k hk; exact ⟨by omega, by omega, fun h => by have := hv' k h; omega⟩) (fun k hk => (hw'.2.lt k hk).2) (by omega)

set_option maxHeartbeats 4000000 in
set_option maxRecDepth 100000 in
theorem again_9 (r : Nat) (rv : Value) (l : List UInt8) (s : Nat × Int) (cs : List Value) (many most each : Int) (w : World) (hr : Rd w r rv l s) (hl : l.length ≤ 140737488351232) (hcs : OpC cs (9, many, most, each)) :
    Calls Try.prog 39 #[.pointer (some ⟨r, 0, none⟩), .agg cs.toArray] w (AgainAt 9 most each many r rv l s w) := by
  have hrb : r < w.heap.size := lt_of_block hr.1
  have hvb : ∀ k, own rv k → k < w.heap.size := fun k hk => (hr.2.1.lt k hk).2
  obtain ⟨X, hX⟩ : ∃ X, X = cs.toArray := ⟨_, rfl⟩
  obtain ⟨w1, hw1⟩ : ∃ x, x = w.alloc (.cells X 54) := ⟨_, rfl⟩
  obtain ⟨w2, hw2⟩ : ∃ x, x = w1.alloc (.cells ZO 54) := ⟨_, rfl⟩
  obtain ⟨w3, hw3⟩ : ∃ x, x = w2.alloc (.cells ZO 54) := ⟨_, rfl⟩
  have hs1 : w1.heap.size = w.heap.size + 1 := by rw [hw1]; simp
  have hs2 : w2.heap.size = w.heap.size + 1 + 1 := by rw [hw2]; simp; omega
  have hs3 : w3.heap.size = w.heap.size + 3 := by rw [hw3]; simp; omega
  have hrow : w1.heap[w.heap.size]? = some (.cells cs.toArray 54 (0, 0)) := by rw [hw1, hX]; exact heap_alloc_new w _
  have hcell : ∀ i x, cs[i]? = some x → w1.cell? ⟨w.heap.size, i, none⟩ = some x := fun i x h => by rw [cell_of_row _ _ _ _ _ _ hrow]; simpa using h
  have hu01 : Upd (fun _ => False) w w1 := by rw [hw1]; exact (Upd.refl _ w).alloc _
  have hu12 : Upd (fun _ => False) w1 w2 := by rw [hw2]; exact (Upd.refl _ w1).alloc _
  have hu23 : Upd (fun _ => False) w2 w3 := by rw [hw3]; exact (Upd.refl _ w2).alloc _
  have hu13 : Upd (fun _ => False) w1 w3 := hu12.trans (hu23.mono (fun _ _ e => e.elim))
  have b0 : w2.cell? ⟨w.heap.size, 0, none⟩ = some (.int .i64 9) := hu12.cell (hcell 0 _ hcs.c0) id
  have b3 : w2.cell? ⟨w.heap.size, 3, none⟩ = some (.int .i64 many) := hu12.cell (hcell 3 _ hcs.c3) id
  have b10 : w2.cell? ⟨w.heap.size, 10, none⟩ = some (.int .i64 most) := hu12.cell (hcell 10 _ hcs.c10) id
  have b11 : w2.cell? ⟨w.heap.size, 11, none⟩ = some (.int .i64 each) := hu12.cell (hcell 11 _ hcs.c11) id
  have HB0 : Hid (∀ w', Upd (fun k => w.heap.size < k) w1 w' → w'.cell? ⟨w.heap.size, 0, none⟩ = some (.int .i64 9)) := fun w' hu => hu.cell (hcell 0 _ hcs.c0) (by simp)
  have HB3 : Hid (∀ w', Upd (fun k => w.heap.size < k) w1 w' → w'.cell? ⟨w.heap.size, 3, none⟩ = some (.int .i64 many)) := fun w' hu => hu.cell (hcell 3 _ hcs.c3) (by simp)
  have HB10 : Hid (∀ w', Upd (fun k => w.heap.size < k) w1 w' → w'.cell? ⟨w.heap.size, 10, none⟩ = some (.int .i64 most)) := fun w' hu => hu.cell (hcell 10 _ hcs.c10) (by simp)
  have HB11 : Hid (∀ w', Upd (fun k => w.heap.size < k) w1 w' → w'.cell? ⟨w.heap.size, 11, none⟩ = some (.int .i64 each)) := fun w' hu => hu.cell (hcell 11 _ hcs.c11) (by simp)
  have HZ3 : Hid (w3.heap[w.heap.size + 1 + 1]? = some (.cells ZO 54 (0, 0))) := by show _ = _; rw [← hs2, hw3]; exact heap_alloc_new w2 _
  have HY3 : Hid (w3.heap[w.heap.size + 1]? = some (.cells ZO 54 (0, 0))) := by
    have h : w2.heap[w.heap.size + 1]? = some (.cells ZO 54 (0, 0)) := by rw [← hs1, hw2]; exact heap_alloc_new w1 _
    exact (hu23.block _ (by omega) id).trans h
  obtain ⟨BL, hBL⟩ : ∃ x, x = base 9 many most each := ⟨_, rfl⟩
  have hBA : ((((ZO.setIfInBounds 0 (.int .i64 9)).setIfInBounds 10 (.int .i64 most)).setIfInBounds 11 (.int .i64 each)).setIfInBounds 3 (.int .i64 many)) = BL.toArray := by rw [hBL]; exact set_base 9 many most each
  have HBs : Hid ((Try.prog.info? 54).map (·.size) = some (((((ZO.setIfInBounds 0 (.int .i64 9)).setIfInBounds 10 (.int .i64 most)).setIfInBounds 11 (.int .i64 each)).setIfInBounds 3 (.int .i64 many))).size) := by show _ = _; rw [hBA, sizeO, hBL]; rfl
  have HBl : Hid (ZO.size = (((((ZO.setIfInBounds 0 (.int .i64 9)).setIfInBounds 10 (.int .i64 most)).setIfInBounds 11 (.int .i64 each)).setIfInBounds 3 (.int .i64 many))).size) := by show _ = _; rw [hBA, hBL]; rfl
  have HB1 : Hid ((((((ZO.setIfInBounds 0 (.int .i64 9)).setIfInBounds 10 (.int .i64 most)).setIfInBounds 11 (.int .i64 each)).setIfInBounds 3 (.int .i64 many))).all (·.oneCell') = true) := by show _ = _; rw [hBA, hBL]; simpa using base_one 9 many most each
  have HBA := Lib.hid hBA
  have HBLe := Lib.hid hBL
  have Hr := Lib.hid hr
  have Hl := Lib.hid hl
  have Hrb := Lib.hid hrb
  have Hvb := Lib.hid hvb
  have Hs3 := Lib.hid hs3
  have HU13 : Hid (Upd (fun k => w.heap.size < k) w1 w3) := hu13.mono (fun _ _ e => e.elim)
  have HU03 : Hid (Upd (fun _ => False) w w3) := hu01.trans (hu13.mono (fun _ _ e => e.elim))
  have hz := zeroO
  rw [← hX]
  subst hw3
  subst hw2
  subst hw1
  clear hX hs1 hs2 hs3 hrow hcell hu01 hu12 hu23 hu13 hcs hBL hBA hr hl hrb hvb
  go_enter Try.func39, Try.ntmps39
  go_wp2_with (first
    | ((with_reducible refine wpList_store_new (o := ⟨none, .store 54 (.tmp 5) (.tmp 14), _, _, _, _⟩) ?_ _ (.tmp 5) (.tmp 14) ?_ (w.heap.size + 1 + 1) ((((ZO.setIfInBounds 0 (.int .i64 9)).setIfInBounds 10 (.int .i64 most)).setIfInBounds 11 (.int .i64 each)).setIfInBounds 3 (.int .i64 many)) ?_ ?_ 54 ZO HZ3.out HBs.out HBl.out HB1.out ?_); rfl; rfl; rfl; rfl; intro w4 Hg4 Hu4; clear b0 b3 b10 b11; have HU14 : Hid (Upd (fun k => w.heap.size < k) _ w4) := HU13.out.trans (Hu4.out.mono (fun k _ e => .inl (by omega))); have b0 := HB0.out w4 HU14.out; have b3 := HB3.out w4 HU14.out; have b10 := HB10.out w4 HU14.out; have b11 := HB11.out w4 HU14.out))
  have HU04 : Hid (Upd (fun _ => False) w w4) := HU03.out.trans (Hu4.out.mono (fun k _ e => .inr (by omega)))
  have HY4 : Hid (w4.heap[w.heap.size + 1]? = some (.cells ZO 54 (0, 0))) := (Hu4.out.block _ (lt_of_block HY3.out) (by omega)).trans HY3.out
  have HR4 : Hid (Row w4 (w.heap.size + 1 + 1) 54 BL) := by show _ = _; rw [← HBA.out]; exact Hg4.out
  have Hrd4 : Hid (Rd w4 r rv l s) := Hr.out.upd HU04.out id (fun _ _ => id)
  have HU34 : Hid (w.heap.size + 3 ≤ w4.heap.size) := by have h := Hu4.out.size; have h3 := Hs3.out; rw [h3] at h; exact h
  refine (ReadB.rbytes_any most r rv l s w4 Hrd4.out (by have := Hl.out; omega)).mono ?_
  rintro e w5 ⟨ao, cap, rfl, how, hrd5, hu5⟩
  obtain ⟨xs, hxs⟩ : ∃ t, t = (bytM most l s).1 := ⟨_, rfl⟩
  rw [← hxs] at how ⊢
  obtain ⟨n, hn⟩ : ∃ n, n = xs.length := ⟨_, rfl⟩
  rw [← hn] at how ⊢
  have Hxs := Lib.hid hxs
  have Hn := Lib.hid hn
  have How := Lib.hid how
  clear how hxs hn
  have Hrd5 : Hid (Rd w5 r rv l (stepM 9 most each many l s)) := hrd5
  have HU5 := Lib.hid hu5
  clear hrd5 hu5
  have HR5 : Hid (Row w5 (w.heap.size + 1 + 1) 54 BL) := HR4.out.upd HU5.out (by have := Hrb.out; omega)
  have HY5 : Hid (w5.heap[w.heap.size + 1]? = some (.cells ZO 54 (0, 0))) := (HU5.out.block _ (lt_of_block HY4.out) (by have := Hrb.out; omega)).trans HY4.out
  obtain ⟨LL, hLL⟩ : ∃ x, x = BL.set 7 (.slice ao n cap) := ⟨_, rfl⟩
  obtain ⟨LA, hLA⟩ : ∃ x, x = LL.toArray := ⟨_, rfl⟩
  have HLlen : Hid (LL.length = 12) := by show _ = _; rw [hLL, List.length_set, HBLe.out]; rfl
  have HLone : Hid (LL.all (·.oneCell') = true) := by show _ = _; rw [hLL, HBLe.out]; exact set_one (base_one _ _ _ _) rfl
  have HLs : Hid ((Try.prog.info? 54).map (·.size) = some LA.size) := by show _ = _; rw [sizeO, hLA]; simp [HLlen.out]
  have HLz : Hid (ZO.size = LA.size) := by show _ = _; rw [hLA]; simp [HLlen.out, ZO]
  have HL1 : Hid (LA.all (·.oneCell') = true) := by show _ = _; rw [hLA]; simpa using HLone.out
  have HRs : Hid ((w5.setCell ⟨w.heap.size + 1 + 1, 7, none⟩ (.slice ao n cap)).heap[w.heap.size + 1 + 1]? = some (.cells LA 54 (0, 0))) := by show _ = _; rw [hLA, hLL]; exact HR5.out.set 7 _
  have HYs : Hid ((w5.setCell ⟨w.heap.size + 1 + 1, 7, none⟩ (.slice ao n cap)).heap[w.heap.size + 1]? = some (.cells ZO 54 (0, 0))) := (heap_setCell_other w5 _ _ _ (by simp)).trans HY5.out
  have HUs : Hid (Upd (fun k => k = w.heap.size + 1 + 1) w5 (w5.setCell ⟨w.heap.size + 1 + 1, 7, none⟩ (.slice ao n cap))) := put1 (Upd.refl (fun k => k = w.heap.size + 1 + 1) w5) 7 _
  have hcc : w5.cell? ⟨w.heap.size + 1 + 1, 7, none⟩ = some ((base 0 0 0 0).getD 7 undef) := by rw [HR5.out.cell, HBLe.out]; rfl
  have hff : w5.frozen? ⟨w.heap.size + 1 + 1, 7, none⟩ = false := HR5.out.frozen 7
  have HLLe := Lib.hid hLL
  have HLAe := Lib.hid hLA
  clear hLL hLA
  go_wp2_with (first
    | ((with_reducible refine wpList_load_row (o := ⟨some 82, _, _, _, _, _⟩) ?_ 54 (.tmp 5) ?_ (w.heap.size + 1 + 1) ?_ 54 LA (0, 0) _ HRs.out Try.underlying54 ?_ HLs.out ?_); rfl; rfl; rfl; rfl)
    | ((with_reducible refine wpList_store_new (o := ⟨none, .store 54 (.tmp 4) (.tmp 82), _, _, _, _⟩) ?_ _ (.tmp 4) (.tmp 82) ?_ (w.heap.size + 1) LA ?_ ?_ 54 ZO HYs.out HLs.out HLz.out HL1.out ?_); rfl; rfl; rfl; rfl; intro w6 Hg6 Hu6))
  have HU56 : Hid (Upd (fun k => k = w.heap.size + 1 ∨ k = w.heap.size + 1 + 1) w5 w6) := (HUs.out.mono (fun k _ e => .inr e)).trans (Hu6.out.mono (fun k _ e => .inl (.inl e)))
  have HU46 : Hid (Upd (fun k => k = r ∨ k = w.heap.size + 1 ∨ k = w.heap.size + 1 + 1) w4 w6) := (HU5.out.mono (fun k _ e => .inl e)).trans (HU56.out.mono (fun k _ e => .inl (.inr e)))
  have HU6 : Hid (Upd (fun k => k = r) w w6) := (HU04.out.mono (fun _ _ e => e.elim)).trans (HU46.out.mono (fun k _ e => by
    rcases e with e | e | e
    · exact .inl e
    · exact .inr (by omega)
    · exact .inr (by omega)))
  refine bodyPost_ret (results_cell_row rfl _ _ (w.heap.size + 1) 54 LA (0, 0) _ rfl Hg6.out Try.underlying54 rfl HLs.out) rfl ?_
  have hrb := Hrb.out
  refine ⟨LL, by rw [HLAe.out], HLlen.out, HLone.out, ?_, HU6.out, ?_⟩
  · have h := Hrd5.out.upd HU56.out (by omega) (fun k hk => by have := Hvb.out k hk; omega)
    exact h
  · intro a ha h0
    subst ha
    have hs4 := HU34.out
    have hsl : Sl w5 (.slice ao n cap) xs := by have h := How.out; rw [Hn.out] at h ⊢; exact WriterW.Sl.of_row h
    have hlt : ∀ k, own (.slice ao n cap) k → w4.heap.size ≤ k ∧ k < w5.heap.size := fun k hk => How.out.lt k hk
    have hsl6 : Sl w6 (.slice ao n cap) xs := hsl.upd HU56.out (fun k hk => by have := (hlt k hk).1; omega)
    have hz56 := HU56.out.size
    obtain ⟨t', e1, e2, e3, e4, e5⟩ := went_byt most l a h0
    have hte : xs = t' := by rw [Hxs.out, e1]
    subst hte
    refine ⟨a + 4 + xs.length, congrArg Prod.snd e1, e3, e4, ?_⟩
    rw [← e5, HLLe.out, HBLe.out]
    intro w' b v l' hu' hw' hb' hv' hlen
    rw [List.length_append] at hlen
    exact lays_9 b v l' ao n cap xs most _ _ _ _ _ _ _ _ _ w' hw' (hsl6.upd hu' (fun k hk => by have := (hlt k hk).1; omega)) (fun k hk => by have h1 := hlt k hk; exact ⟨by omega, fun h => by have := hv' k h; omega⟩) e2 (by omega)

set_option maxHeartbeats 4000000 in
set_option maxRecDepth 100000 in
theorem again_6 (r : Nat) (rv : Value) (l : List UInt8) (s : Nat × Int) (cs : List Value) (many most each : Int) (w : World) (hr : Rd w r rv l s) (hl : l.length ≤ 140737488351232) (hcs : OpC cs (6, many, most, each)) :
    Calls Try.prog 39 #[.pointer (some ⟨r, 0, none⟩), .agg cs.toArray] w (AgainAt 6 most each many r rv l s w) := by
  have hrb : r < w.heap.size := lt_of_block hr.1
  have hvb : ∀ k, own rv k → k < w.heap.size := fun k hk => (hr.2.1.lt k hk).2
  obtain ⟨X, hX⟩ : ∃ X, X = cs.toArray := ⟨_, rfl⟩
  obtain ⟨w1, hw1⟩ : ∃ x, x = w.alloc (.cells X 54) := ⟨_, rfl⟩
  obtain ⟨w2, hw2⟩ : ∃ x, x = w1.alloc (.cells ZO 54) := ⟨_, rfl⟩
  obtain ⟨w3, hw3⟩ : ∃ x, x = w2.alloc (.cells ZO 54) := ⟨_, rfl⟩
  have hs1 : w1.heap.size = w.heap.size + 1 := by rw [hw1]; simp
  have hs2 : w2.heap.size = w.heap.size + 1 + 1 := by rw [hw2]; simp; omega
  have hs3 : w3.heap.size = w.heap.size + 3 := by rw [hw3]; simp; omega
  have hrow : w1.heap[w.heap.size]? = some (.cells cs.toArray 54 (0, 0)) := by rw [hw1, hX]; exact heap_alloc_new w _
  have hcell : ∀ i x, cs[i]? = some x → w1.cell? ⟨w.heap.size, i, none⟩ = some x := fun i x h => by rw [cell_of_row _ _ _ _ _ _ hrow]; simpa using h
  have hu01 : Upd (fun _ => False) w w1 := by rw [hw1]; exact (Upd.refl _ w).alloc _
  have hu12 : Upd (fun _ => False) w1 w2 := by rw [hw2]; exact (Upd.refl _ w1).alloc _
  have hu23 : Upd (fun _ => False) w2 w3 := by rw [hw3]; exact (Upd.refl _ w2).alloc _
  have hu13 : Upd (fun _ => False) w1 w3 := hu12.trans (hu23.mono (fun _ _ e => e.elim))
  have b0 : w2.cell? ⟨w.heap.size, 0, none⟩ = some (.int .i64 6) := hu12.cell (hcell 0 _ hcs.c0) id
  have b3 : w2.cell? ⟨w.heap.size, 3, none⟩ = some (.int .i64 many) := hu12.cell (hcell 3 _ hcs.c3) id
  have b10 : w2.cell? ⟨w.heap.size, 10, none⟩ = some (.int .i64 most) := hu12.cell (hcell 10 _ hcs.c10) id
  have b11 : w2.cell? ⟨w.heap.size, 11, none⟩ = some (.int .i64 each) := hu12.cell (hcell 11 _ hcs.c11) id
  have HB0 : Hid (∀ w', Upd (fun k => w.heap.size < k) w1 w' → w'.cell? ⟨w.heap.size, 0, none⟩ = some (.int .i64 6)) := fun w' hu => hu.cell (hcell 0 _ hcs.c0) (by simp)
  have HB3 : Hid (∀ w', Upd (fun k => w.heap.size < k) w1 w' → w'.cell? ⟨w.heap.size, 3, none⟩ = some (.int .i64 many)) := fun w' hu => hu.cell (hcell 3 _ hcs.c3) (by simp)
  have HB10 : Hid (∀ w', Upd (fun k => w.heap.size < k) w1 w' → w'.cell? ⟨w.heap.size, 10, none⟩ = some (.int .i64 most)) := fun w' hu => hu.cell (hcell 10 _ hcs.c10) (by simp)
  have HB11 : Hid (∀ w', Upd (fun k => w.heap.size < k) w1 w' → w'.cell? ⟨w.heap.size, 11, none⟩ = some (.int .i64 each)) := fun w' hu => hu.cell (hcell 11 _ hcs.c11) (by simp)
  have HZ3 : Hid (w3.heap[w.heap.size + 1 + 1]? = some (.cells ZO 54 (0, 0))) := by show _ = _; rw [← hs2, hw3]; exact heap_alloc_new w2 _
  have HY3 : Hid (w3.heap[w.heap.size + 1]? = some (.cells ZO 54 (0, 0))) := by
    have h : w2.heap[w.heap.size + 1]? = some (.cells ZO 54 (0, 0)) := by rw [← hs1, hw2]; exact heap_alloc_new w1 _
    exact (hu23.block _ (by omega) id).trans h
  obtain ⟨BL, hBL⟩ : ∃ x, x = base 6 many most each := ⟨_, rfl⟩
  have hBA : ((((ZO.setIfInBounds 0 (.int .i64 6)).setIfInBounds 10 (.int .i64 most)).setIfInBounds 11 (.int .i64 each)).setIfInBounds 3 (.int .i64 many)) = BL.toArray := by rw [hBL]; exact set_base 6 many most each
  have HBs : Hid ((Try.prog.info? 54).map (·.size) = some (((((ZO.setIfInBounds 0 (.int .i64 6)).setIfInBounds 10 (.int .i64 most)).setIfInBounds 11 (.int .i64 each)).setIfInBounds 3 (.int .i64 many))).size) := by show _ = _; rw [hBA, sizeO, hBL]; rfl
  have HBl : Hid (ZO.size = (((((ZO.setIfInBounds 0 (.int .i64 6)).setIfInBounds 10 (.int .i64 most)).setIfInBounds 11 (.int .i64 each)).setIfInBounds 3 (.int .i64 many))).size) := by show _ = _; rw [hBA, hBL]; rfl
  have HB1 : Hid ((((((ZO.setIfInBounds 0 (.int .i64 6)).setIfInBounds 10 (.int .i64 most)).setIfInBounds 11 (.int .i64 each)).setIfInBounds 3 (.int .i64 many))).all (·.oneCell') = true) := by show _ = _; rw [hBA, hBL]; simpa using base_one 6 many most each
  have HBA := Lib.hid hBA
  have HBLe := Lib.hid hBL
  have Hr := Lib.hid hr
  have Hl := Lib.hid hl
  have Hrb := Lib.hid hrb
  have Hvb := Lib.hid hvb
  have Hs3 := Lib.hid hs3
  have HU13 : Hid (Upd (fun k => w.heap.size < k) w1 w3) := hu13.mono (fun _ _ e => e.elim)
  have HU03 : Hid (Upd (fun _ => False) w w3) := hu01.trans (hu13.mono (fun _ _ e => e.elim))
  have hz := zeroO
  rw [← hX]
  subst hw3
  subst hw2
  subst hw1
  clear hX hs1 hs2 hs3 hrow hcell hu01 hu12 hu23 hu13 hcs hBL hBA hr hl hrb hvb
  go_enter Try.func39, Try.ntmps39
  go_wp2_with (first
    | ((with_reducible refine wpList_store_new (o := ⟨none, .store 54 (.tmp 5) (.tmp 14), _, _, _, _⟩) ?_ _ (.tmp 5) (.tmp 14) ?_ (w.heap.size + 1 + 1) ((((ZO.setIfInBounds 0 (.int .i64 6)).setIfInBounds 10 (.int .i64 most)).setIfInBounds 11 (.int .i64 each)).setIfInBounds 3 (.int .i64 many)) ?_ ?_ 54 ZO HZ3.out HBs.out HBl.out HB1.out ?_); rfl; rfl; rfl; rfl; intro w4 Hg4 Hu4; clear b0 b3 b10 b11; have HU14 : Hid (Upd (fun k => w.heap.size < k) _ w4) := HU13.out.trans (Hu4.out.mono (fun k _ e => .inl (by omega))); have b0 := HB0.out w4 HU14.out; have b3 := HB3.out w4 HU14.out; have b10 := HB10.out w4 HU14.out; have b11 := HB11.out w4 HU14.out))
  have HU04 : Hid (Upd (fun _ => False) w w4) := HU03.out.trans (Hu4.out.mono (fun k _ e => .inr (by omega)))
  have HY4 : Hid (w4.heap[w.heap.size + 1]? = some (.cells ZO 54 (0, 0))) := (Hu4.out.block _ (lt_of_block HY3.out) (by omega)).trans HY3.out
  have HR4 : Hid (Row w4 (w.heap.size + 1 + 1) 54 BL) := by show _ = _; rw [← HBA.out]; exact Hg4.out
  have Hrd4 : Hid (Rd w4 r rv l s) := Hr.out.upd HU04.out id (fun _ _ => id)
  have HU34 : Hid (w.heap.size + 3 ≤ w4.heap.size) := by have h := Hu4.out.size; have h3 := Hs3.out; rw [h3] at h; exact h
  refine (rdigests_any many r rv l s w4 Hrd4.out (by have := Hl.out; omega)).mono ?_
  rintro e w5 ⟨ao, cap, rfl, how, h32, hrd5, hu5⟩
  obtain ⟨ds, hds⟩ : ∃ t, t = (dgsM many l s).1 := ⟨_, rfl⟩
  rw [← hds] at how h32 ⊢
  obtain ⟨n, hn⟩ : ∃ n, n = ds.length := ⟨_, rfl⟩
  rw [← hn] at how ⊢
  have Hds := Lib.hid hds
  have Hn := Lib.hid hn
  have How := Lib.hid how
  have H32 := Lib.hid h32
  clear how hds hn h32
  have Hrd5 : Hid (Rd w5 r rv l (stepM 6 most each many l s)) := hrd5
  have HU5 := Lib.hid hu5
  clear hrd5 hu5
  have HR5 : Hid (Row w5 (w.heap.size + 1 + 1) 54 BL) := HR4.out.upd HU5.out (by have := Hrb.out; omega)
  have HY5 : Hid (w5.heap[w.heap.size + 1]? = some (.cells ZO 54 (0, 0))) := (HU5.out.block _ (lt_of_block HY4.out) (by have := Hrb.out; omega)).trans HY4.out
  obtain ⟨LL, hLL⟩ : ∃ x, x = BL.set 5 (.slice ao n cap) := ⟨_, rfl⟩
  obtain ⟨LA, hLA⟩ : ∃ x, x = LL.toArray := ⟨_, rfl⟩
  have HLlen : Hid (LL.length = 12) := by show _ = _; rw [hLL, List.length_set, HBLe.out]; rfl
  have HLone : Hid (LL.all (·.oneCell') = true) := by show _ = _; rw [hLL, HBLe.out]; exact set_one (base_one _ _ _ _) rfl
  have HLs : Hid ((Try.prog.info? 54).map (·.size) = some LA.size) := by show _ = _; rw [sizeO, hLA]; simp [HLlen.out]
  have HLz : Hid (ZO.size = LA.size) := by show _ = _; rw [hLA]; simp [HLlen.out, ZO]
  have HL1 : Hid (LA.all (·.oneCell') = true) := by show _ = _; rw [hLA]; simpa using HLone.out
  have HRs : Hid ((w5.setCell ⟨w.heap.size + 1 + 1, 5, none⟩ (.slice ao n cap)).heap[w.heap.size + 1 + 1]? = some (.cells LA 54 (0, 0))) := by show _ = _; rw [hLA, hLL]; exact HR5.out.set 5 _
  have HYs : Hid ((w5.setCell ⟨w.heap.size + 1 + 1, 5, none⟩ (.slice ao n cap)).heap[w.heap.size + 1]? = some (.cells ZO 54 (0, 0))) := (heap_setCell_other w5 _ _ _ (by simp)).trans HY5.out
  have HUs : Hid (Upd (fun k => k = w.heap.size + 1 + 1) w5 (w5.setCell ⟨w.heap.size + 1 + 1, 5, none⟩ (.slice ao n cap))) := put1 (Upd.refl (fun k => k = w.heap.size + 1 + 1) w5) 5 _
  have hcc : w5.cell? ⟨w.heap.size + 1 + 1, 5, none⟩ = some ((base 0 0 0 0).getD 5 undef) := by rw [HR5.out.cell, HBLe.out]; rfl
  have hff : w5.frozen? ⟨w.heap.size + 1 + 1, 5, none⟩ = false := HR5.out.frozen 5
  have HLLe := Lib.hid hLL
  have HLAe := Lib.hid hLA
  clear hLL hLA
  go_wp2_with (first
    | ((with_reducible refine wpList_load_row (o := ⟨some 82, _, _, _, _, _⟩) ?_ 54 (.tmp 5) ?_ (w.heap.size + 1 + 1) ?_ 54 LA (0, 0) _ HRs.out Try.underlying54 ?_ HLs.out ?_); rfl; rfl; rfl; rfl)
    | ((with_reducible refine wpList_store_new (o := ⟨none, .store 54 (.tmp 4) (.tmp 82), _, _, _, _⟩) ?_ _ (.tmp 4) (.tmp 82) ?_ (w.heap.size + 1) LA ?_ ?_ 54 ZO HYs.out HLs.out HLz.out HL1.out ?_); rfl; rfl; rfl; rfl; intro w6 Hg6 Hu6))
  have HU56 : Hid (Upd (fun k => k = w.heap.size + 1 ∨ k = w.heap.size + 1 + 1) w5 w6) := (HUs.out.mono (fun k _ e => .inr e)).trans (Hu6.out.mono (fun k _ e => .inl (.inl e)))
  have HU46 : Hid (Upd (fun k => k = r ∨ k = w.heap.size + 1 ∨ k = w.heap.size + 1 + 1) w4 w6) := (HU5.out.mono (fun k _ e => .inl e)).trans (HU56.out.mono (fun k _ e => .inl (.inr e)))
  have HU6 : Hid (Upd (fun k => k = r) w w6) := (HU04.out.mono (fun _ _ e => e.elim)).trans (HU46.out.mono (fun k _ e => by
    rcases e with e | e | e
    · exact .inl e
    · exact .inr (by omega)
    · exact .inr (by omega)))
  refine bodyPost_ret (results_cell_row rfl _ _ (w.heap.size + 1) 54 LA (0, 0) _ rfl Hg6.out Try.underlying54 rfl HLs.out) rfl ?_
  have hrb := Hrb.out
  refine ⟨LL, by rw [HLAe.out], HLlen.out, HLone.out, ?_, HU6.out, ?_⟩
  · have h := Hrd5.out.upd HU56.out (by omega) (fun k hk => by have := Hvb.out k hk; omega)
    exact h
  · intro a ha h0
    subst ha
    have hs4 := HU34.out
    have hdg : DgL w5 (.slice ao n cap) ds (own (.slice ao n cap)) := by have h := How.out; rw [Hn.out] at h ⊢; exact dgl_own h H32.out
    have hlt : ∀ k, own (.slice ao n cap) k → w4.heap.size ≤ k ∧ k < w5.heap.size := fun k hk => How.out.lt k hk
    have hdg6 : DgL w6 (.slice ao n cap) ds (own (.slice ao n cap)) := hdg.upd HU56.out (fun k hk => by have := (hlt k hk).1; omega)
    have hz56 := HU56.out.size
    obtain ⟨a', e1, ⟨e2, e3, e4⟩, e5⟩ := went_dgs many l a (Hr.out.2.2) h0
    refine ⟨a', e1, e2, e3, ?_⟩
    have hsl := seg_len l a (a' - a) (by omega)
    rw [← e4, ← Hds.out] at hsl
    rw [← e4, ← Hds.out, HLLe.out, HBLe.out]
    rw [← Hds.out] at e5
    intro w' b v l' hu' hw' hb' hv' hlen
    have hz' := hu'.size
    exact lays_6 b v l' ao n cap ds (own (.slice ao n cap)) _ _ _ _ _ _ _ _ _ _ w' hw' (hdg6.upd hu' (fun k hk => by have := (hlt k hk).1; omega)) (fun k hk => by have h1 := hlt k hk; exact ⟨by omega, by omega, fun h => by have := hv' k h; omega⟩) (by omega)

set_option maxHeartbeats 4000000 in
set_option maxRecDepth 100000 in
theorem again_10 (r : Nat) (rv : Value) (l : List UInt8) (s : Nat × Int) (cs : List Value) (many most each : Int) (w : World) (hr : Rd w r rv l s) (hl : l.length ≤ 140737488351232) (hcs : OpC cs (10, many, most, each)) :
    Calls Try.prog 39 #[.pointer (some ⟨r, 0, none⟩), .agg cs.toArray] w (AgainAt 10 most each many r rv l s w) := by
  have hrb : r < w.heap.size := lt_of_block hr.1
  have hvb : ∀ k, own rv k → k < w.heap.size := fun k hk => (hr.2.1.lt k hk).2
  obtain ⟨X, hX⟩ : ∃ X, X = cs.toArray := ⟨_, rfl⟩
  obtain ⟨w1, hw1⟩ : ∃ x, x = w.alloc (.cells X 54) := ⟨_, rfl⟩
  obtain ⟨w2, hw2⟩ : ∃ x, x = w1.alloc (.cells ZO 54) := ⟨_, rfl⟩
  obtain ⟨w3, hw3⟩ : ∃ x, x = w2.alloc (.cells ZO 54) := ⟨_, rfl⟩
  have hs1 : w1.heap.size = w.heap.size + 1 := by rw [hw1]; simp
  have hs2 : w2.heap.size = w.heap.size + 1 + 1 := by rw [hw2]; simp; omega
  have hs3 : w3.heap.size = w.heap.size + 3 := by rw [hw3]; simp; omega
  have hrow : w1.heap[w.heap.size]? = some (.cells cs.toArray 54 (0, 0)) := by rw [hw1, hX]; exact heap_alloc_new w _
  have hcell : ∀ i x, cs[i]? = some x → w1.cell? ⟨w.heap.size, i, none⟩ = some x := fun i x h => by rw [cell_of_row _ _ _ _ _ _ hrow]; simpa using h
  have hu01 : Upd (fun _ => False) w w1 := by rw [hw1]; exact (Upd.refl _ w).alloc _
  have hu12 : Upd (fun _ => False) w1 w2 := by rw [hw2]; exact (Upd.refl _ w1).alloc _
  have hu23 : Upd (fun _ => False) w2 w3 := by rw [hw3]; exact (Upd.refl _ w2).alloc _
  have hu13 : Upd (fun _ => False) w1 w3 := hu12.trans (hu23.mono (fun _ _ e => e.elim))
  have b0 : w2.cell? ⟨w.heap.size, 0, none⟩ = some (.int .i64 10) := hu12.cell (hcell 0 _ hcs.c0) id
  have b3 : w2.cell? ⟨w.heap.size, 3, none⟩ = some (.int .i64 many) := hu12.cell (hcell 3 _ hcs.c3) id
  have b10 : w2.cell? ⟨w.heap.size, 10, none⟩ = some (.int .i64 most) := hu12.cell (hcell 10 _ hcs.c10) id
  have b11 : w2.cell? ⟨w.heap.size, 11, none⟩ = some (.int .i64 each) := hu12.cell (hcell 11 _ hcs.c11) id
  have HB0 : Hid (∀ w', Upd (fun k => w.heap.size < k) w1 w' → w'.cell? ⟨w.heap.size, 0, none⟩ = some (.int .i64 10)) := fun w' hu => hu.cell (hcell 0 _ hcs.c0) (by simp)
  have HB3 : Hid (∀ w', Upd (fun k => w.heap.size < k) w1 w' → w'.cell? ⟨w.heap.size, 3, none⟩ = some (.int .i64 many)) := fun w' hu => hu.cell (hcell 3 _ hcs.c3) (by simp)
  have HB10 : Hid (∀ w', Upd (fun k => w.heap.size < k) w1 w' → w'.cell? ⟨w.heap.size, 10, none⟩ = some (.int .i64 most)) := fun w' hu => hu.cell (hcell 10 _ hcs.c10) (by simp)
  have HB11 : Hid (∀ w', Upd (fun k => w.heap.size < k) w1 w' → w'.cell? ⟨w.heap.size, 11, none⟩ = some (.int .i64 each)) := fun w' hu => hu.cell (hcell 11 _ hcs.c11) (by simp)
  have HZ3 : Hid (w3.heap[w.heap.size + 1 + 1]? = some (.cells ZO 54 (0, 0))) := by show _ = _; rw [← hs2, hw3]; exact heap_alloc_new w2 _
  have HY3 : Hid (w3.heap[w.heap.size + 1]? = some (.cells ZO 54 (0, 0))) := by
    have h : w2.heap[w.heap.size + 1]? = some (.cells ZO 54 (0, 0)) := by rw [← hs1, hw2]; exact heap_alloc_new w1 _
    exact (hu23.block _ (by omega) id).trans h
  obtain ⟨BL, hBL⟩ : ∃ x, x = base 10 many most each := ⟨_, rfl⟩
  have hBA : ((((ZO.setIfInBounds 0 (.int .i64 10)).setIfInBounds 10 (.int .i64 most)).setIfInBounds 11 (.int .i64 each)).setIfInBounds 3 (.int .i64 many)) = BL.toArray := by rw [hBL]; exact set_base 10 many most each
  have HBs : Hid ((Try.prog.info? 54).map (·.size) = some (((((ZO.setIfInBounds 0 (.int .i64 10)).setIfInBounds 10 (.int .i64 most)).setIfInBounds 11 (.int .i64 each)).setIfInBounds 3 (.int .i64 many))).size) := by show _ = _; rw [hBA, sizeO, hBL]; rfl
  have HBl : Hid (ZO.size = (((((ZO.setIfInBounds 0 (.int .i64 10)).setIfInBounds 10 (.int .i64 most)).setIfInBounds 11 (.int .i64 each)).setIfInBounds 3 (.int .i64 many))).size) := by show _ = _; rw [hBA, hBL]; rfl
  have HB1 : Hid ((((((ZO.setIfInBounds 0 (.int .i64 10)).setIfInBounds 10 (.int .i64 most)).setIfInBounds 11 (.int .i64 each)).setIfInBounds 3 (.int .i64 many))).all (·.oneCell') = true) := by show _ = _; rw [hBA, hBL]; simpa using base_one 10 many most each
  have HBA := Lib.hid hBA
  have HBLe := Lib.hid hBL
  have Hr := Lib.hid hr
  have Hl := Lib.hid hl
  have Hrb := Lib.hid hrb
  have Hvb := Lib.hid hvb
  have Hs3 := Lib.hid hs3
  have HU13 : Hid (Upd (fun k => w.heap.size < k) w1 w3) := hu13.mono (fun _ _ e => e.elim)
  have HU03 : Hid (Upd (fun _ => False) w w3) := hu01.trans (hu13.mono (fun _ _ e => e.elim))
  have hz := zeroO
  rw [← hX]
  subst hw3
  subst hw2
  subst hw1
  clear hX hs1 hs2 hs3 hrow hcell hu01 hu12 hu23 hu13 hcs hBL hBA hr hl hrb hvb
  go_enter Try.func39, Try.ntmps39
  go_wp2_with (first
    | ((with_reducible refine wpList_store_new (o := ⟨none, .store 54 (.tmp 5) (.tmp 14), _, _, _, _⟩) ?_ _ (.tmp 5) (.tmp 14) ?_ (w.heap.size + 1 + 1) ((((ZO.setIfInBounds 0 (.int .i64 10)).setIfInBounds 10 (.int .i64 most)).setIfInBounds 11 (.int .i64 each)).setIfInBounds 3 (.int .i64 many)) ?_ ?_ 54 ZO HZ3.out HBs.out HBl.out HB1.out ?_); rfl; rfl; rfl; rfl; intro w4 Hg4 Hu4; clear b0 b3 b10 b11; have HU14 : Hid (Upd (fun k => w.heap.size < k) _ w4) := HU13.out.trans (Hu4.out.mono (fun k _ e => .inl (by omega))); have b0 := HB0.out w4 HU14.out; have b3 := HB3.out w4 HU14.out; have b10 := HB10.out w4 HU14.out; have b11 := HB11.out w4 HU14.out))
  have HU04 : Hid (Upd (fun _ => False) w w4) := HU03.out.trans (Hu4.out.mono (fun k _ e => .inr (by omega)))
  have HY4 : Hid (w4.heap[w.heap.size + 1]? = some (.cells ZO 54 (0, 0))) := (Hu4.out.block _ (lt_of_block HY3.out) (by omega)).trans HY3.out
  have HR4 : Hid (Row w4 (w.heap.size + 1 + 1) 54 BL) := by show _ = _; rw [← HBA.out]; exact Hg4.out
  have Hrd4 : Hid (Rd w4 r rv l s) := Hr.out.upd HU04.out id (fun _ _ => id)
  have HU34 : Hid (w.heap.size + 3 ≤ w4.heap.size) := by have h := Hu4.out.size; have h3 := Hs3.out; rw [h3] at h; exact h
  refine (rtexts_any most each r rv l s w4 Hrd4.out (by have := Hl.out; omega)).mono ?_
  rintro e w5 ⟨ao, cap, rfl, how, hrd5, hu5⟩
  obtain ⟨ss, hss⟩ : ∃ t, t = (tsM most each l s).1 := ⟨_, rfl⟩
  rw [← hss] at how ⊢
  obtain ⟨n, hn⟩ : ∃ n, n = ss.length := ⟨_, rfl⟩
  rw [← hn] at how ⊢
  have Hss := Lib.hid hss
  have Hn := Lib.hid hn
  have How := Lib.hid how
  clear how hss hn
  have Hrd5 : Hid (Rd w5 r rv l (stepM 10 most each many l s)) := hrd5
  have HU5 := Lib.hid hu5
  clear hrd5 hu5
  have HR5 : Hid (Row w5 (w.heap.size + 1 + 1) 54 BL) := HR4.out.upd HU5.out (by have := Hrb.out; omega)
  have HY5 : Hid (w5.heap[w.heap.size + 1]? = some (.cells ZO 54 (0, 0))) := (HU5.out.block _ (lt_of_block HY4.out) (by have := Hrb.out; omega)).trans HY4.out
  obtain ⟨LL, hLL⟩ : ∃ x, x = BL.set 9 (.slice ao n cap) := ⟨_, rfl⟩
  obtain ⟨LA, hLA⟩ : ∃ x, x = LL.toArray := ⟨_, rfl⟩
  have HLlen : Hid (LL.length = 12) := by show _ = _; rw [hLL, List.length_set, HBLe.out]; rfl
  have HLone : Hid (LL.all (·.oneCell') = true) := by show _ = _; rw [hLL, HBLe.out]; exact set_one (base_one _ _ _ _) rfl
  have HLs : Hid ((Try.prog.info? 54).map (·.size) = some LA.size) := by show _ = _; rw [sizeO, hLA]; simp [HLlen.out]
  have HLz : Hid (ZO.size = LA.size) := by show _ = _; rw [hLA]; simp [HLlen.out, ZO]
  have HL1 : Hid (LA.all (·.oneCell') = true) := by show _ = _; rw [hLA]; simpa using HLone.out
  have HRs : Hid ((w5.setCell ⟨w.heap.size + 1 + 1, 9, none⟩ (.slice ao n cap)).heap[w.heap.size + 1 + 1]? = some (.cells LA 54 (0, 0))) := by show _ = _; rw [hLA, hLL]; exact HR5.out.set 9 _
  have HYs : Hid ((w5.setCell ⟨w.heap.size + 1 + 1, 9, none⟩ (.slice ao n cap)).heap[w.heap.size + 1]? = some (.cells ZO 54 (0, 0))) := (heap_setCell_other w5 _ _ _ (by simp)).trans HY5.out
  have HUs : Hid (Upd (fun k => k = w.heap.size + 1 + 1) w5 (w5.setCell ⟨w.heap.size + 1 + 1, 9, none⟩ (.slice ao n cap))) := put1 (Upd.refl (fun k => k = w.heap.size + 1 + 1) w5) 9 _
  have hcc : w5.cell? ⟨w.heap.size + 1 + 1, 9, none⟩ = some ((base 0 0 0 0).getD 9 undef) := by rw [HR5.out.cell, HBLe.out]; rfl
  have hff : w5.frozen? ⟨w.heap.size + 1 + 1, 9, none⟩ = false := HR5.out.frozen 9
  have HLLe := Lib.hid hLL
  have HLAe := Lib.hid hLA
  clear hLL hLA
  go_wp2_with (first
    | ((with_reducible refine wpList_load_row (o := ⟨some 82, _, _, _, _, _⟩) ?_ 54 (.tmp 5) ?_ (w.heap.size + 1 + 1) ?_ 54 LA (0, 0) _ HRs.out Try.underlying54 ?_ HLs.out ?_); rfl; rfl; rfl; rfl)
    | ((with_reducible refine wpList_store_new (o := ⟨none, .store 54 (.tmp 4) (.tmp 82), _, _, _, _⟩) ?_ _ (.tmp 4) (.tmp 82) ?_ (w.heap.size + 1) LA ?_ ?_ 54 ZO HYs.out HLs.out HLz.out HL1.out ?_); rfl; rfl; rfl; rfl; intro w6 Hg6 Hu6))
  have HU56 : Hid (Upd (fun k => k = w.heap.size + 1 ∨ k = w.heap.size + 1 + 1) w5 w6) := (HUs.out.mono (fun k _ e => .inr e)).trans (Hu6.out.mono (fun k _ e => .inl (.inl e)))
  have HU46 : Hid (Upd (fun k => k = r ∨ k = w.heap.size + 1 ∨ k = w.heap.size + 1 + 1) w4 w6) := (HU5.out.mono (fun k _ e => .inl e)).trans (HU56.out.mono (fun k _ e => .inl (.inr e)))
  have HU6 : Hid (Upd (fun k => k = r) w w6) := (HU04.out.mono (fun _ _ e => e.elim)).trans (HU46.out.mono (fun k _ e => by
    rcases e with e | e | e
    · exact .inl e
    · exact .inr (by omega)
    · exact .inr (by omega)))
  refine bodyPost_ret (results_cell_row rfl _ _ (w.heap.size + 1) 54 LA (0, 0) _ rfl Hg6.out Try.underlying54 rfl HLs.out) rfl ?_
  have hrb := Hrb.out
  refine ⟨LL, by rw [HLAe.out], HLlen.out, HLone.out, ?_, HU6.out, ?_⟩
  · have h := Hrd5.out.upd HU56.out (by omega) (fun k hk => by have := Hvb.out k hk; omega)
    exact h
  · intro a ha h0
    subst ha
    have hs4 := HU34.out
    obtain ⟨ss', a', e1, e2, ⟨e3, e4, e5⟩, e6, e7⟩ := went_ts most each l a h0
    have hse : ss = ss' := by rw [Hss.out, e1]
    subst hse
    have hst : StrL w5 (.slice ao n cap) ss := by have h := How.out; rw [Hn.out] at h ⊢; exact strl_own h e7
    have hlt : ∀ k, own (.slice ao n cap) k → w4.heap.size ≤ k ∧ k < w5.heap.size := fun k hk => How.out.lt k hk
    have hst6 : StrL w6 (.slice ao n cap) ss := hst.upd HU56.out (fun k hk => by have := (hlt k hk).1; omega)
    have hz56 := HU56.out.size
    refine ⟨a', congrArg Prod.snd e1, e3, e4, ?_⟩
    rw [← e5, HLLe.out, HBLe.out]
    intro w' b v l' hu' hw' hb' hv' hlen
    have hz' := hu'.size
    unfold forms at hlen
    rw [List.length_append] at hlen
    exact lays_10 b v l' ao n cap ss most each _ _ _ _ _ _ _ _ w' hw' (hst6.upd hu' (fun k hk => by have := (hlt k hk).1; omega)) (fun k hk => by have h1 := hlt k hk; exact ⟨by omega, by omega, fun h => by have := hv' k h; omega⟩) e2 (by omega) (by omega)

set_option maxHeartbeats 4000000 in
set_option maxRecDepth 100000 in
theorem again_other (kind : Int) (hk : ∀ i : Int, 1 ≤ i → i ≤ 10 → kind ≠ i) (r : Nat) (rv : Value) (l : List UInt8) (s : Nat × Int) (cs : List Value) (many most each : Int) (w : World) (hr : Rd w r rv l s) (hl : l.length ≤ 140737488351232) (hcs : OpC cs (kind, many, most, each)) :
    Calls Try.prog 39 #[.pointer (some ⟨r, 0, none⟩), .agg cs.toArray] w (AgainAt kind most each many r rv l s w) := by
  have hrb : r < w.heap.size := lt_of_block hr.1
  have hvb : ∀ k, own rv k → k < w.heap.size := fun k hk => (hr.2.1.lt k hk).2
  obtain ⟨X, hX⟩ : ∃ X, X = cs.toArray := ⟨_, rfl⟩
  obtain ⟨w1, hw1⟩ : ∃ x, x = w.alloc (.cells X 54) := ⟨_, rfl⟩
  obtain ⟨w2, hw2⟩ : ∃ x, x = w1.alloc (.cells ZO 54) := ⟨_, rfl⟩
  obtain ⟨w3, hw3⟩ : ∃ x, x = w2.alloc (.cells ZO 54) := ⟨_, rfl⟩
  have hs1 : w1.heap.size = w.heap.size + 1 := by rw [hw1]; simp
  have hs2 : w2.heap.size = w.heap.size + 1 + 1 := by rw [hw2]; simp; omega
  have hs3 : w3.heap.size = w.heap.size + 3 := by rw [hw3]; simp; omega
  have hrow : w1.heap[w.heap.size]? = some (.cells cs.toArray 54 (0, 0)) := by rw [hw1, hX]; exact heap_alloc_new w _
  have hcell : ∀ i x, cs[i]? = some x → w1.cell? ⟨w.heap.size, i, none⟩ = some x := fun i x h => by rw [cell_of_row _ _ _ _ _ _ hrow]; simpa using h
  have hu01 : Upd (fun _ => False) w w1 := by rw [hw1]; exact (Upd.refl _ w).alloc _
  have hu12 : Upd (fun _ => False) w1 w2 := by rw [hw2]; exact (Upd.refl _ w1).alloc _
  have hu23 : Upd (fun _ => False) w2 w3 := by rw [hw3]; exact (Upd.refl _ w2).alloc _
  have hu13 : Upd (fun _ => False) w1 w3 := hu12.trans (hu23.mono (fun _ _ e => e.elim))
  have b0 : w2.cell? ⟨w.heap.size, 0, none⟩ = some (.int .i64 kind) := hu12.cell (hcell 0 _ hcs.c0) id
  have b3 : w2.cell? ⟨w.heap.size, 3, none⟩ = some (.int .i64 many) := hu12.cell (hcell 3 _ hcs.c3) id
  have b10 : w2.cell? ⟨w.heap.size, 10, none⟩ = some (.int .i64 most) := hu12.cell (hcell 10 _ hcs.c10) id
  have b11 : w2.cell? ⟨w.heap.size, 11, none⟩ = some (.int .i64 each) := hu12.cell (hcell 11 _ hcs.c11) id
  have HB0 : Hid (∀ w', Upd (fun k => w.heap.size < k) w1 w' → w'.cell? ⟨w.heap.size, 0, none⟩ = some (.int .i64 kind)) := fun w' hu => hu.cell (hcell 0 _ hcs.c0) (by simp)
  have HB3 : Hid (∀ w', Upd (fun k => w.heap.size < k) w1 w' → w'.cell? ⟨w.heap.size, 3, none⟩ = some (.int .i64 many)) := fun w' hu => hu.cell (hcell 3 _ hcs.c3) (by simp)
  have HB10 : Hid (∀ w', Upd (fun k => w.heap.size < k) w1 w' → w'.cell? ⟨w.heap.size, 10, none⟩ = some (.int .i64 most)) := fun w' hu => hu.cell (hcell 10 _ hcs.c10) (by simp)
  have HB11 : Hid (∀ w', Upd (fun k => w.heap.size < k) w1 w' → w'.cell? ⟨w.heap.size, 11, none⟩ = some (.int .i64 each)) := fun w' hu => hu.cell (hcell 11 _ hcs.c11) (by simp)
  have HZ3 : Hid (w3.heap[w.heap.size + 1 + 1]? = some (.cells ZO 54 (0, 0))) := by show _ = _; rw [← hs2, hw3]; exact heap_alloc_new w2 _
  have HY3 : Hid (w3.heap[w.heap.size + 1]? = some (.cells ZO 54 (0, 0))) := by
    have h : w2.heap[w.heap.size + 1]? = some (.cells ZO 54 (0, 0)) := by rw [← hs1, hw2]; exact heap_alloc_new w1 _
    exact (hu23.block _ (by omega) id).trans h
  obtain ⟨BL, hBL⟩ : ∃ x, x = base kind many most each := ⟨_, rfl⟩
  have hBA : ((((ZO.setIfInBounds 0 (.int .i64 kind)).setIfInBounds 10 (.int .i64 most)).setIfInBounds 11 (.int .i64 each)).setIfInBounds 3 (.int .i64 many)) = BL.toArray := by rw [hBL]; exact set_base kind many most each
  have HBs : Hid ((Try.prog.info? 54).map (·.size) = some (((((ZO.setIfInBounds 0 (.int .i64 kind)).setIfInBounds 10 (.int .i64 most)).setIfInBounds 11 (.int .i64 each)).setIfInBounds 3 (.int .i64 many))).size) := by show _ = _; rw [hBA, sizeO, hBL]; rfl
  have HBl : Hid (ZO.size = (((((ZO.setIfInBounds 0 (.int .i64 kind)).setIfInBounds 10 (.int .i64 most)).setIfInBounds 11 (.int .i64 each)).setIfInBounds 3 (.int .i64 many))).size) := by show _ = _; rw [hBA, hBL]; rfl
  have HB1 : Hid ((((((ZO.setIfInBounds 0 (.int .i64 kind)).setIfInBounds 10 (.int .i64 most)).setIfInBounds 11 (.int .i64 each)).setIfInBounds 3 (.int .i64 many))).all (·.oneCell') = true) := by show _ = _; rw [hBA, hBL]; simpa using base_one kind many most each
  have HBA := Lib.hid hBA
  have HBLe := Lib.hid hBL
  have Hr := Lib.hid hr
  have Hl := Lib.hid hl
  have Hrb := Lib.hid hrb
  have Hvb := Lib.hid hvb
  have Hs3 := Lib.hid hs3
  have HU13 : Hid (Upd (fun k => w.heap.size < k) w1 w3) := hu13.mono (fun _ _ e => e.elim)
  have HU03 : Hid (Upd (fun _ => False) w w3) := hu01.trans (hu13.mono (fun _ _ e => e.elim))
  have hz := zeroO
  rw [← hX]
  subst hw3
  subst hw2
  subst hw1
  clear hX hs1 hs2 hs3 hrow hcell hu01 hu12 hu23 hu13 hcs hBL hBA hr hl hrb hvb
  have h1 : ¬ kind = 1 := hk 1 (by decide) (by decide)
  have h2 : ¬ kind = 2 := hk 2 (by decide) (by decide)
  have h3 : ¬ kind = 3 := hk 3 (by decide) (by decide)
  have h4 : ¬ kind = 4 := hk 4 (by decide) (by decide)
  have h5 : ¬ kind = 5 := hk 5 (by decide) (by decide)
  have h6 : ¬ kind = 6 := hk 6 (by decide) (by decide)
  have h7 : ¬ kind = 7 := hk 7 (by decide) (by decide)
  have h8 : ¬ kind = 8 := hk 8 (by decide) (by decide)
  have h9 : ¬ kind = 9 := hk 9 (by decide) (by decide)
  have h10 : ¬ kind = 10 := hk 10 (by decide) (by decide)
  go_enter Try.func39, Try.ntmps39
  go_wp2_with (first
    | ((with_reducible refine wpList_store_new (o := ⟨none, .store 54 (.tmp 5) (.tmp 14), _, _, _, _⟩) ?_ _ (.tmp 5) (.tmp 14) ?_ (w.heap.size + 1 + 1) ((((ZO.setIfInBounds 0 (.int .i64 kind)).setIfInBounds 10 (.int .i64 most)).setIfInBounds 11 (.int .i64 each)).setIfInBounds 3 (.int .i64 many)) ?_ ?_ 54 ZO HZ3.out HBs.out HBl.out HB1.out ?_); rfl; rfl; rfl; rfl; intro w4 Hg4 Hu4; clear b0 b3 b10 b11; have HU14 : Hid (Upd (fun k => w.heap.size < k) _ w4) := HU13.out.trans (Hu4.out.mono (fun k _ e => .inl (by omega))); have b0 := HB0.out w4 HU14.out; have b3 := HB3.out w4 HU14.out; have b10 := HB10.out w4 HU14.out; have b11 := HB11.out w4 HU14.out; have HY4 : Hid (w4.heap[w.heap.size + 1]? = some (.cells ZO 54 (0, 0))) := (Hu4.out.block _ (lt_of_block HY3.out) (by omega)).trans HY3.out)
    | ((with_reducible refine wpList_load_row (o := ⟨some 82, _, _, _, _, _⟩) ?_ 54 (.tmp 5) ?_ (w.heap.size + 1 + 1) ?_ 54 ((((ZO.setIfInBounds 0 (.int .i64 kind)).setIfInBounds 10 (.int .i64 most)).setIfInBounds 11 (.int .i64 each)).setIfInBounds 3 (.int .i64 many)) (0, 0) _ Hg4.out Try.underlying54 ?_ HBs.out ?_); rfl; rfl; rfl; rfl)
    | ((with_reducible refine wpList_store_new (o := ⟨none, .store 54 (.tmp 4) (.tmp 82), _, _, _, _⟩) ?_ _ (.tmp 4) (.tmp 82) ?_ (w.heap.size + 1) ((((ZO.setIfInBounds 0 (.int .i64 kind)).setIfInBounds 10 (.int .i64 most)).setIfInBounds 11 (.int .i64 each)).setIfInBounds 3 (.int .i64 many)) ?_ ?_ 54 ZO HY4.out HBs.out HBl.out HB1.out ?_); rfl; rfl; rfl; rfl; intro w6 Hg6 Hu6))
  have HU04 : Hid (Upd (fun _ => False) w w4) := HU03.out.trans (Hu4.out.mono (fun k _ e => .inr (by omega)))
  have HU6 : Hid (Upd (fun _ => False) w w6) := HU04.out.trans (Hu6.out.mono (fun k _ e => .inr (by omega)))
  refine bodyPost_ret (results_cell_row rfl _ _ (w.heap.size + 1) 54 ((((ZO.setIfInBounds 0 (.int .i64 kind)).setIfInBounds 10 (.int .i64 most)).setIfInBounds 11 (.int .i64 each)).setIfInBounds 3 (.int .i64 many)) (0, 0) _ rfl Hg6.out Try.underlying54 rfl HBs.out) rfl ?_
  have hst : stepM kind most each many l s = s := by unfold stepM; simp [h1, h2, h3, h4, h5, h6, h7, h8, h9, h10]
  refine ⟨BL, by rw [HBA.out], by rw [HBLe.out]; rfl, by rw [HBLe.out]; exact base_one _ _ _ _, ?_, HU6.out.mono (fun _ _ e => e.elim), ?_⟩
  · rw [hst]
    exact Hr.out.upd HU6.out id (fun _ _ => id)
  · intro a ha h0
    subst ha
    rw [hst]
    refine ⟨a, rfl, Nat.le_refl _, Hr.out.2.2, ?_⟩
    rw [HBLe.out, Nat.sub_self]
    intro w' b v l' hu' hw' hb' hv' hlen
    have e : seg l a 0 = [] := by simp [seg]
    rw [e]
    exact lays_other b v l' kind _ _ _ _ _ _ _ _ _ _ _ w' hw' hk

theorem again_any (kind many most each : Int) (r : Nat) (rv : Value) (l : List UInt8) (s : Nat × Int) (cs : List Value) (w : World) (hr : Rd w r rv l s) (hl : l.length ≤ 140737488351232) (hcs : OpC cs (kind, many, most, each)) :
    Calls Try.prog 39 #[.pointer (some ⟨r, 0, none⟩), .agg cs.toArray] w (AgainAt kind most each many r rv l s w) := by
  by_cases hk : ∀ i : Int, 1 ≤ i → i ≤ 10 → kind ≠ i
  · exact again_other kind hk r rv l s cs many most each w hr hl hcs
  · have h : kind = 1 ∨ kind = 2 ∨ kind = 3 ∨ kind = 4 ∨ kind = 5 ∨ kind = 6 ∨ kind = 7 ∨ kind = 8 ∨ kind = 9 ∨ kind = 10 := by
      have h2 : ¬ (kind < 1 ∨ 10 < kind) := fun h => hk fun i h1 h2 e => by omega
      omega
    rcases h with rfl | rfl | rfl | rfl | rfl | rfl | rfl | rfl | rfl | rfl
    · exact again_1 r rv l s cs many most each w hr hl hcs
    · exact again_2 r rv l s cs many most each w hr hl hcs
    · exact again_3 r rv l s cs many most each w hr hl hcs
    · exact again_4 r rv l s cs many most each w hr hl hcs
    · exact again_5 r rv l s cs many most each w hr hl hcs
    · exact again_6 r rv l s cs many most each w hr hl hcs
    · exact again_7 r rv l s cs many most each w hr hl hcs
    · exact again_8 r rv l s cs many most each w hr hl hcs
    · exact again_9 r rv l s cs many most each w hr hl hcs
    · exact again_10 r rv l s cs many most each w hr hl hcs
end Go.Proofs.Ytcdgimapkbaboaa.AgainW
