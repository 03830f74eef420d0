/-
  Rows of digests of the call's own; docketref6.Root.
-/
import Derived.Test.YtgcionimhmbgeaaDoorRTrFM
import Derived.Test.YtgcionimhmbgeaaDoorRIntsW
import Derived.Maps.AppendAt
import Derived.Test.YtgcionimhmbgeaaDoorRTrNM
import Derived.Great.BuildSlice
namespace Go.Proofs.YtgcionimhmbgeaaDoorR.TrR
open Go.RowKit Sha TurnW Mem RowW SpreadW MixW HashM CopyW WriteW WriteN EndW SumH NewW EqW CutW OfW LeafW TabK BitsW SpL RefOf TabR TrD TrF IntsW
open TrN (wp_lit)
set_option linter.unusedVariables false
set_option linter.unusedSimpArgs false

/-- the cells of digests -/
def dcells (ds : List (List UInt8)) : List Value := (ds.map fun d => d.map u8).flatten
theorem dcells_snoc (ds : List (List UInt8)) (d : List UInt8) : dcells (ds ++ [d]) = dcells ds ++ d.map u8 := by unfold dcells; simp
theorem dcells_len (ds : List (List UInt8)) (h : ∀ d ∈ ds, d.length = 32) : (dcells ds).length = ds.length * 32 := by
  induction ds with
  | nil => rfl
  | cons d ds ih =>
    have e : dcells (d :: ds) = d.map u8 ++ dcells ds := by unfold dcells; simp
    rw [e, List.length_append, ih (fun x hx => h x (by simp [hx])), List.length_map, h d (by simp), List.length_cons]
    omega
theorem dcells_at (ds : List (List UInt8)) (h : ∀ d ∈ ds, d.length = 32) (i j : Nat) (hi : i < ds.length) (hj : j < 32) : (dcells ds)[i * 32 + j]? = ((ds.getD i []).map u8)[j]? := by
  induction ds generalizing i with
  | nil => simp at hi
  | cons d ds ih =>
    have e : dcells (d :: ds) = d.map u8 ++ dcells ds := by unfold dcells; simp
    have hd : (d.map u8).length = 32 := by rw [List.length_map]; exact h d (by simp)
    rw [e]
    cases i with
    | zero =>
      rw [Nat.zero_mul, Nat.zero_add, List.getElem?_append_left (by omega)]
      rfl
    | succ i =>
      rw [List.getElem?_append_right (by omega), hd, show (i + 1) * 32 + j - 32 = i * 32 + j by omega, ih (fun x hx => h x (by simp [hx])) i (by simpa using hi)]
      rfl
theorem one_dcells (ds : List (List UInt8)) : ∀ u ∈ dcells ds, u.oneCell' = true := by
  intro u hu
  unfold dcells at hu
  obtain ⟨l, hl, hu⟩ := List.mem_flatten.1 hu
  obtain ⟨d, _, rfl⟩ := List.mem_map.1 hl
  exact one_of d u hu
/-- the i-th of a row of digests of the call's own -/
theorem own_range {w : World} {g n cap : Nat} {ds : List (List UInt8)} (h : w.ownsRow 0 23 32 (.slice (some ⟨g, 0, none⟩) n cap) n (dcells ds)) (h32 : ∀ d ∈ ds, d.length = 32) (i : Nat) (hi : i < ds.length) :
    ∀ (j : Nat) v, ((ds.getD i []).map u8)[j]? = some v → w.cell? ⟨g, 0 + i * 32 + j, none⟩ = some v := by
  intro j v hv
  have hj : j < 32 := by
    have := (List.getElem?_eq_some_iff.1 hv).1
    rwa [List.length_map, getD32 h32 i hi] at this
  have h2 := World.ownsRow.cells h (g := g) rfl (i * 32 + j) v (by rw [dcells_at ds h32 i j hi hj]; exact hv)
  rw [RowW.add_none] at h2
  rw [Nat.add_assoc]
  exact h2
theorem own_some {w : World} {n : Nat} {ao : Option Addr} {cap : Nat} {xs : List Value} (h : w.ownsRow 0 23 32 (.slice ao n cap) n xs) (hn : 0 < n) : ∃ g, ao = some ⟨g, 0, none⟩ := by
  rcases h.2 with ⟨_, h2⟩ | ⟨g, cap', cur, h2, _⟩
  · omega
  · injection h2 with h3; exact ⟨g, h3⟩
/-- an empty literal -/
theorem own_empty (w : World) : (w.alloc (.cells #[] 23)).ownsRow 0 23 32 (.slice (some ⟨w.heap.size, 0, none⟩) 0 0) 0 [] :=
  ⟨rfl, .inr ⟨w.heap.size, 0, #[], rfl, Nat.zero_le _, heap_alloc_new _ _, Nat.le_refl _, Nat.zero_le _, rfl, rfl⟩⟩
/-- append(v, ds...) -/
theorem wpList_append_ds (w : World) {ops : Array Oper} {rest : List Oper} {o : Oper} {a : Act} {Q : Exit → Act → World → Prop} (hgd : o.guard = none) (sl x : Operand)
    (ho : o.op = .call { callee := .builtin .append, args := #[sl, x], argTypes := #[30, 30] })
    (v : Value) (m : Nat) (xs : List Value) (hs : a.eval sl = v) (hown : w.ownsRow 0 23 32 v m xs) (b off n cap : Nat) (ds : List (List UInt8)) (O : Nat → Prop) (hx : a.eval x = .slice (some ⟨b, off, none⟩) n cap) (hsl : DsL w (.slice (some ⟨b, off, none⟩) n cap) ds O)
    (hn : n = ds.length) (hb : m + n ≤ 1000000)
    (h : ∀ ao cap w', Hid (w'.ownsRow 0 23 32 (.slice ao (m + n) cap) (m + n) (xs ++ dcells ds)) → Hid (Upd (own v) w w') → Hid (∀ k, own (.slice ao (m + n) cap) k → own v k ∨ w.heap.size ≤ k) → wpList Tryd.prog ops Q rest (a.put o.dst (.slice ao (m + n) cap)) w') :
    wpList Tryd.prog ops Q (o :: rest) a w := by
  obtain ⟨i0, hi, hz0, hz1, hz2⟩ := info_parts TrN.infoDz
  have h32 : ∀ d ∈ ds, d.length = 32 := by obtain ⟨_, _, _, _, _, h3, _⟩ := hsl; exact h3
  refine wpList_append_own_at w hgd sl x 30 ho 0 23 i0 (.agg A32) 32 32 Tryd.underlying30 hi hz0 hz1 hz2 rfl (by decide) v _ _ hs hown ⟨b, off, none⟩ n cap (dcells ds) hx (by rw [dcells_len ds h32, hn]) (fun j u hu => ?_) (one_dcells ds) (by unfold maxLen; omega) (by omega) (Nat.zero_le _) (fun v' w' a1 a2 _ a4 => ?_)
  · have hj : j < ds.length * 32 := by have := (List.getElem?_eq_some_iff.1 hu).1; rwa [dcells_len ds h32] at this
    have e : j = (j / 32) * 32 + j % 32 := by omega
    rw [e, dcells_at ds h32 _ _ (by omega) (by omega)] at hu
    have := at_range hsl (j / 32) (by omega) (j % 32) u hu
    rw [RowW.add_none, e, ← Nat.add_assoc]
    exact this
  · obtain ⟨ao, cap', rfl⟩ := slice_form a1
    refine h ao cap' w' a1 (Upd.grown a2 (fun k hk => hk)) (fun k hk => ?_)
    rcases a4 with e | e
    · left; unfold own at hk ⊢; rw [← e]; exact hk
    · right
      unfold own at hk
      rw [e] at hk
      injection hk with hk
      omega
/-- append of one digest -/
theorem wp_append_dig (w : World) {o : Oper} {a : Act} {K : Act → World → Prop} {Q : Exit → Act → World → Prop} (sl x : Operand)
    (ho : o.op = .call { callee := .builtin .append, args := #[sl, x], argTypes := #[30, 30] })
    (v : Value) (n : Nat) (xs news : List Value) (hs : a.eval sl = v) (hown : w.ownsRow 0 23 32 v n xs) (gn c : Nat) (hx : a.eval x = .slice (some ⟨gn, 0, none⟩) 1 c)
    (hgn : w.heap[gn]? = some (.cells news.toArray 23 (0, 0))) (hnl : news.length = 32) (h1 : ∀ u ∈ news, u.oneCell' = true) (hn : n + 1 ≤ 4000000000)
    (hK : ∀ ao' cap' w', Hid (w'.ownsRow 0 23 32 (.slice ao' (n + 1) cap') (n + 1) (xs ++ news)) → Hid (Upd (own v) w w') → Hid (∀ k, own (.slice ao' (n + 1) cap') k → own v k ∨ w.heap.size ≤ k) →
      K (a.put o.dst (.slice ao' (n + 1) cap')) w') : o.wp Tryd.prog a w K Q := by
  obtain ⟨i0, hi, hz0, hz1, hz2⟩ := info_parts TrN.infoDz
  obtain ⟨v', w', hr, h2, h3, h4, h5⟩ := run_append_own_at (P := Tryd.prog) w 0 30 o.type 23 i0 (.agg A32) 32 32 Tryd.underlying30 hi hz0 hz1 hz2 rfl (by decide) v n xs hown ⟨gn, 0, none⟩ 1 c news (by omega) (fun j u hu => by
    rw [RowW.add_none, Nat.zero_add, cell_of_row _ _ _ _ _ _ hgn]
    simpa using hu) h1 (by unfold maxLen; omega) (by omega) (Nat.zero_le _)
  obtain ⟨ao, cap', rfl⟩ := slice_form h2
  unfold Oper.wp execOp
  simp only [ho, resolve, invoke, builtin, Sem.run_bind, Sem.run_pure, Result.andThen_ok, List.map_toArray, List.map_cons, List.map_nil, hs, hx, hr]
  refine hK _ _ _ h2 (Upd.grown h3 (fun k hk => hk)) (fun k hk => ?_)
  rcases h5 with e | e
  · left; unfold own at hk ⊢; rw [← e]; exact hk
  · right
    unfold own at hk
    rw [e] at hk
    injection hk with hk
    omega
theorem wpList_append_dig (w : World) {ops : Array Oper} {rest : List Oper} {o : Oper} {a : Act} {Q : Exit → Act → World → Prop} (hgd : o.guard = none) (sl x : Operand)
    (ho : o.op = .call { callee := .builtin .append, args := #[sl, x], argTypes := #[30, 30] })
    (v : Value) (n : Nat) (xs news : List Value) (hs : a.eval sl = v) (hown : w.ownsRow 0 23 32 v n xs) (gn c : Nat) (hx : a.eval x = .slice (some ⟨gn, 0, none⟩) 1 c)
    (hgn : w.heap[gn]? = some (.cells news.toArray 23 (0, 0))) (hnl : news.length = 32) (h1 : ∀ u ∈ news, u.oneCell' = true) (hn : n + 1 ≤ 4000000000)
    (hK : ∀ ao' cap' w', Hid (w'.ownsRow 0 23 32 (.slice ao' (n + 1) cap') (n + 1) (xs ++ news)) → Hid (Upd (own v) w w') → Hid (∀ k, own (.slice ao' (n + 1) cap') k → own v k ∨ w.heap.size ≤ k) →
      wpList Tryd.prog ops Q rest (a.put o.dst (.slice ao' (n + 1) cap')) w') : wpList Tryd.prog ops Q (o :: rest) a w :=
  wpList_plain hgd fun _ hh => wp_append_dig w sl x ho v n xs news hs hown gn c hx hgn hnl h1 hn (fun a' c' w' h2 h3 h4 => hh _ _ (hK a' c' w' h2 h3 h4))
theorem wpList_lit {ops : Array Oper} {rest : List Oper} {o : Oper} {a : Act} {w : World} {Q : Exit → Act → World → Prop} (hgd : o.guard = none) (parts : Array (Nat × Operand)) (ho : o.op = .buildSlice 30 1 parts) (x : List Value)
    (hv : (parts.map fun (i, x) => (i, a.eval x)).toList = (([x].map fun v => Value.agg v.toArray).zipIdx 0).map fun x => (x.2, x.1)) (h32 : x.length = 32)
    (h : wpList Tryd.prog ops Q rest (a.put o.dst (.slice (some ⟨w.heap.size, 0, none⟩) 1 1)) (w.alloc (.cells x.toArray 23))) : wpList Tryd.prog ops Q (o :: rest) a w :=
  wpList_plain hgd fun _ hh => wp_lit 1 (by decide) (by decide) parts ho [x] hv rfl (fun v hv => by rw [List.mem_singleton.1 hv]; exact h32) (hh _ _ (by simpa using h))
/-- one row up, pair by pair -/
theorem up_step (N : List UInt8 → List UInt8 → List UInt8) (row : List (List UInt8)) (j : Nat) (h : 2 * j + 1 < row.length) : up N (row.take (2 * j + 2)) = up N (row.take (2 * j)) ++ [N (row.getD (2 * j) []) (row.getD (2 * j + 1) [])] := by
  have e : row.take (2 * j + 2) = row.take (2 * j) ++ [row.getD (2 * j) [], row.getD (2 * j + 1) []] := by
    rw [show 2 * j + 2 = (2 * j + 1) + 1 from rfl, List.take_succ_eq_append_getElem h, List.take_succ_eq_append_getElem (by omega), List.append_assoc, List.getD_eq_getElem?_getD, List.getD_eq_getElem?_getD, List.getElem?_eq_getElem h, List.getElem?_eq_getElem (by omega)]
    rfl
  rw [e, up_append N _ _ (by rw [List.length_take]; omega)]
  rfl
theorem up_even (N : List UInt8 → List UInt8 → List UInt8) (row : List (List UInt8)) (j : Nat) (h : 2 * j = row.length) : up N (row.take (2 * j)) = up N row := by rw [List.take_of_length_le (by omega)]
theorem up_odd (N : List UInt8 → List UInt8 → List UInt8) (row : List (List UInt8)) (j : Nat) (h : 2 * j + 1 = row.length) : up N (row.take (2 * j)) ++ [row.getD (2 * j) []] = up N row := by
  have e : row = row.take (2 * j) ++ [row.getD (2 * j) []] := by
    have h1 : row = row.take (2 * j + 1) := by rw [h, List.take_length]
    rw [List.take_succ_eq_append_getElem (by omega)] at h1
    rw [List.getD_eq_getElem?_getD, List.getElem?_eq_getElem (by omega)]
    exact h1
  conv => rhs; rw [e, up_append N _ _ (by rw [List.length_take]; omega)]
  rfl
theorem up32 (width : Int) : ∀ (row : List (List UInt8)), (∀ d ∈ row, d.length = 32) → ∀ d ∈ up (Nd width) row, d.length = 32
  | [], _, _, hd => by simp [up] at hd
  | [x], h, d, hd => by simp [up] at hd; exact h d (by simp [hd])
  | x :: y :: r, h, d, hd => by
    rw [up, List.mem_cons] at hd
    rcases hd with rfl | hd
    · exact nd_len _ _ _
    · exact up32 width r (fun z hz => h z (by simp [hz])) d hd
def lenOf : Value → Nat
  | .slice _ n _ => n
  | _ => 0
/-- the row that is left has the root -/
def LRo (width : Int) (ds : List (List UInt8)) (w0 : World) (B : Nat) (v : Value) (wr : World) : Prop :=
  ∃ row : List (List UInt8), wr.ownsRow 0 23 32 v row.length (dcells row) ∧ (∀ k, own v k → B < k) ∧ (∀ d ∈ row, d.length = 32) ∧ 1 ≤ row.length ∧ row.length ≤ 300 ∧ rootM width row = rootM width ds ∧ Upd (fun _ => False) w0 wr
/-- the row above it, so far -/
def LRi (width : Int) (row : List (List UInt8)) (wI : World) (v i : Value) (wr : World) : Prop :=
  ∃ j : Nat, 2 * j ≤ row.length ∧ i = .int .i64 ((2 * j : Nat) : Int) ∧ wr.ownsRow 0 23 32 v j (dcells (up (Nd width) (row.take (2 * j)))) ∧ (∀ k, own v k → wI.heap.size ≤ k) ∧ Upd (fun _ => False) wI wr

set_option maxHeartbeats 4000000 in
set_option maxRecDepth 100000 in
theorem rroot_any (width : Int) (hw : -9223372036854775808 ≤ width ∧ width ≤ 9223372036854775807) (n : Nat) (ao : Option Addr) (cap : Nat) (ds : List (List UInt8)) (O : Nat → Prop) (w : World) (hn : n = ds.length) (hnm : n ≤ 300) (hs : DsL w (.slice ao n cap) ds O) (hO : ∀ k, O k → k < w.heap.size) :
    Calls Tryd.prog 19 #[.int .i64 width, .slice ao n cap] w (AtD (rootM width ds) w) := by
  obtain ⟨Y, hY⟩ : ∃ Y, Y = ((rootM width ds).map u8).toArray := ⟨_, rfl⟩
  obtain ⟨ao', cap', he, h1, h2, h3, h4, h5⟩ := id hs
  injection he with e1 e2 e3
  subst e1 e3
  have hl32 := root_len width ds h3
  have HY1 : Hid (Y.all (·.oneCell') = true) := by show _ = _; rw [hY]; simpa using one_of (rootM width ds)
  have HYs : Hid ((Tryd.prog.info? 23).map (·.size) = some Y.size) := by show _ = _; rw [size32, hY]; simp [hl32]
  have HYl : Hid (AD.size = Y.size) := by show _ = _; rw [hY]; simp [hl32, AD]
  have HYo : Hid (Row2 Y (rootM width ds)) := hY
  obtain ⟨w0, hw0⟩ : ∃ x, x = w.alloc (.cells AD 23) := ⟨_, rfl⟩
  have hu0 : Upd (fun _ => False) w w0 := by rw [hw0]; exact (Upd.refl _ w).alloc _
  have hr0 : w0.heap[w.heap.size]? = some (.cells AD 23 (0, 0)) := by rw [hw0]; exact heap_alloc_new w _
  have hs0 : w0.heap.size = w.heap.size + 1 := by rw [hw0]; simp
  have HU0 := Lib.hid hu0
  have HR0 := Lib.hid hr0
  have Hs := Lib.hid (hs.upd hu0 (fun _ _ => id))
  have HO := Lib.hid hO
  have hz := zeroD
  have hncap : n ≤ cap := by omega
  have hcm : cap ≤ 9223372036854775807 := by unfold maxLen at h2; omega
  have Hn := Lib.hid hn
  have H3 := Lib.hid h3
  clear hY hl32 hu0 hr0 hs hO e2 h1 h2 h3 hn
  by_cases hn0 : n = 0
  · subst hn0
    have HN : Hid (Calls Tryd.prog 15 #[.int .i64 width] w0 fun e w'' => e = .returned (.agg Y) ∧ Upd (fun _ => False) w0 w'') := by
      have e1 : rootM width ds = notM width := by
        have h := Hn.out
        rw [List.eq_nil_of_length_eq_zero h.symm]
        rfl
      show Calls _ _ _ _ _
      rw [HYo.out, e1]
      exact rnothing_any width hw w0
    clear h4 h5
    go_enter Tryd.func19, Tryd.ntmps19
    go_wp2_with fail
    rw [← hw0]
    clear hw0
    refine HN.out.mono ?_
    rintro e w3 ⟨rfl, hu3⟩
    have HU3 := Lib.hid hu3
    have HR3 : Hid (w3.heap[w.heap.size]? = some (.cells AD 23 (0, 0))) := (hu3.block _ (lt_of_block HR0.out) id).trans HR0.out
    clear hu3 HN
    go_wp2_with ((with_reducible refine wpList_store_new (o := ⟨none, .store 23 (.tmp 4) (.tmp 12), _, _, _, _⟩) ?_ _ (.tmp 4) (.tmp 12) ?_ w.heap.size Y ?_ ?_ 23 AD HR3.out HYs.out HYl.out HY1.out ?_); rfl; rfl; rfl; rfl; intro w4 Hg_w4 Hu_w4)
    refine bodyPost_ret (results_cell_row rfl _ _ w.heap.size 23 Y (0, 0) _ rfl Hg_w4.out Tryd.underlying23 rfl HYs.out) rfl ?_
    exact ⟨by rw [← HYo.out], (HU0.out.trans (HU3.out.mono (fun _ _ e => e.elim))).trans (Hu_w4.out.mono (fun k hk e => .inr (by omega)))⟩
  · obtain ⟨⟨b, off, sp⟩, rfl⟩ : ∃ a, ao = some a := by
      cases ao with
      | some a => exact ⟨a, rfl⟩
      | none => have := h4 rfl; have := Hn.out; omega
    obtain ⟨hsp, _, _⟩ := h5 _ rfl
    obtain rfl : sp = none := hsp
    have d0 : ((n : Int) == 0) = false := by simp; omega
    have HD1 : Hid (DsL (w0.alloc (.cells #[] 23)) (.slice (some ⟨b, off, none⟩) n cap) ds O) := Hs.out.upd ((Upd.refl (fun _ => False) w0).alloc _) (fun _ _ => id)
    have HE1 := Lib.hid (own_empty w0)
    have HRn : Hid (∀ w' X Z, X.length = 32 → Z.length = 32 → Calls Tryd.prog 12 #[.int .i64 width, .agg (X.map u8).toArray, .agg (Z.map u8).toArray] w' fun e w'' => e = .returned (.agg ((Nd width X Z).map u8).toArray) ∧ Upd (fun _ => False) w' w'') := fun w' X Z hX hZ => rnode_any width hw X Z hX hZ w' trivial trivial
    have hnb : 0 + n ≤ 1000000 := by omega
    clear h4 h5
    go_enter Tryd.func19, Tryd.ntmps19
    go_wp2_with (at_builtin; (refine wpList_append_ds _ (o := ⟨some 15, _, _, _, _, _⟩) ?_ (.tmp 13) (.tmp 14) ?_ (.slice (some ⟨w.heap.size + 1, 0, none⟩) 0 0) 0 [] ?_ (by rw [← hw0, ← hs0]; exact HE1.out) b off n cap ds O ?_ (by rw [← hw0]; exact HD1.out) Hn.out hnb ?_); rfl; rfl; rfl; rfl; intro a1 c1 w1 HO1 HU1 HA1)
    rw [Nat.zero_add] at HO1 HA1
    try rw [Nat.zero_add]
    have HL0 : Hid (LRo width ds w0 w.heap.size (.slice a1 n c1) w1) := by
      have h1 := HO1.out
      rw [List.nil_append] at h1
      refine ⟨ds, by rw [← Hn.out]; exact h1, fun k hk => ?_, H3.out, by have := Hn.out; omega, by have := Hn.out; omega, rfl, ?_⟩
      · rcases HA1.out k hk with h | h
        · have h2 : w.heap.size + 1 = k := by simpa [own, Value.ownBlock] using h
          omega
        · simp at h
          omega
      · refine (((Upd.refl (fun _ => False) w0).alloc (.cells #[] 23)).trans ?_)
        have h3 := HU1.out
        rw [← hw0] at h3
        exact h3.mono (fun k _ e => .inr (by have h2 : w.heap.size + 1 = k := by simpa [own, Value.ownBlock] using e
                                             omega))
    clear hw0 HO1 HU1 HA1 HD1 HE1 d0 hnb
    go_loopw [5] (fun v wr => LRo width ds w0 w.heap.size v wr) (fun v _ => lenOf v)
    case atStart => exact HL0.out
    case round =>
      clear HL0
      obtain ⟨row, hown, hov, h32, hr1, hr2, hroot, hu⟩ := hrel
      obtain ⟨wq, rfl⟩ : ∃ x : World, x = wr := ⟨_, rfl⟩
      obtain ⟨a5, c5, rfl⟩ := slice_form hown
      obtain ⟨g5, rfl⟩ := own_some hown (by omega)
      obtain ⟨p, hp⟩ : ∃ p, row.length = p + 1 := ⟨row.length - 1, by omega⟩
      have Hp := Lib.hid hp
      rw [hp] at hown hov ⊢
      have Hown := Lib.hid hown
      have Hov := Lib.hid hov
      have H32 := Lib.hid h32
      have Hroot := Lib.hid hroot
      have HU := Lib.hid hu
      have hpb : p < 300 := by omega
      have hg5 : g5 < wq.heap.size := (hown.lt g5 rfl).2
      have HRq : Hid (wq.heap[w.heap.size]? = some (.cells AD 23 (0, 0))) := (hu.block _ (lt_of_block HR0.out) id).trans HR0.out
      clear hown hov h32 hr1 hr2 hroot hu hp
      by_cases hlt : 1 < p + 1
      · have hltI : decide ((1 : Int) < (p : Int) + 1) = true := by simp; omega
        go_wp2
        go_loopw [6, 7] (fun v i wr => LRi width row wq v i wr) (fun _ i _ => p + 1 - (intOf i).toNat)
        case atStart => exact ⟨0, by omega, rfl, World.ownsRow_nil wq _ _ _, fun k hk => by simp [own, Value.ownBlock] at hk, Upd.refl _ _⟩
        case round =>
          obtain ⟨j, hj, rfl, ho6, hv6, hu6⟩ := hrel
          obtain ⟨wj, rfl⟩ : ∃ x : World, x = wr := ⟨_, rfl⟩
          obtain ⟨v6, rfl⟩ : ∃ x : Value, x = u6 := ⟨_, rfl⟩
          obtain ⟨i0, hi0⟩ : ∃ i0, i0 = 2 * j := ⟨_, rfl⟩
          rw [← hi0]
          have Hi0 := Lib.hid hi0
          have Ho6 := Lib.hid ho6
          have Hv6 := Lib.hid hv6
          have HU6 := Lib.hid hu6
          have Ho5 : Hid (wj.ownsRow 0 23 32 (.slice (some ⟨g5, 0, none⟩) (p + 1) c5) (p + 1) (dcells row)) := own_upd Hown.out hu6 (fun _ _ => id)
          have hjp : i0 ≤ p + 1 := by have := Hp.out; omega
          have Hap : Hid (∀ k, k = g5 → ¬ own v6 k) := fun k e h => by have := hv6 k h; omega
          have hcell : ∀ w', Upd (own v6) wj w' → ∀ i, i < row.length → ∀ (j : Nat) v, ((row.getD i []).map u8)[j]? = some v → w'.cell? ⟨g5, 0 + i * 32 + j, none⟩ = some v := fun w' h i hi j v hv => by
            have h2 := Ho5.out
            exact h.cell (own_range h2 H32.out i hi j v hv) (Hap.out g5 rfl)
          clear ho6 hv6 hu6 hj hi0
          by_cases hgo : i0 + 1 < p + 1
          · have hgoI : decide ((i0 : Int) + 1 < (p : Int) + 1) = true := by simp; omega
            obtain ⟨A, hA⟩ : ∃ X, X = (row.getD i0 []).map u8 := ⟨_, rfl⟩
            obtain ⟨B, hB⟩ : ∃ X, X = (row.getD (i0 + 1) []).map u8 := ⟨_, rfl⟩
            obtain ⟨E, hE⟩ : ∃ X, X = (Nd width (row.getD i0 []) (row.getD (i0 + 1) [])).map u8 := ⟨_, rfl⟩
            have lA := getD32 H32.out i0 (by have := Hp.out; omega)
            have lB := getD32 H32.out (i0 + 1) (by have := Hp.out; omega)
            have HAz : Hid ((Tryd.prog.info? 23).map (·.size) = some A.length) := by show _ = _; rw [size32, hA, List.length_map, lA]
            have HBz : Hid ((Tryd.prog.info? 23).map (·.size) = some B.length) := by show _ = _; rw [size32, hB, List.length_map, lB]
            have HEl : Hid (E.length = 32) := by show _ = _; rw [hE, List.length_map]; exact nd_len _ _ _
            have HE32 : Hid (∀ v ∈ [E], v.length = 32) := fun v hv => by rw [List.mem_singleton.1 hv]; exact HEl.out
            have HEo : Hid (∀ u ∈ E, u.oneCell' = true) := by rw [hE]; exact one_of _
            have HA0 : Hid (∀ w', Upd (own v6) wj w' → ∀ (j : Nat) v, A[j]? = some v → w'.cell? ⟨g5, 0 + i0 * 32 + j, none⟩ = some v) := fun w' h j v hv => hcell w' h i0 (by have := Hp.out; omega) j v (by rw [← hA]; exact hv)
            have HB0 : Hid (∀ w', Upd (own v6) wj w' → ∀ (j : Nat) v, B[j]? = some v → w'.cell? ⟨g5, 0 + (i0 + 1) * 32 + j, none⟩ = some v) := fun w' h j v hv => hcell w' h (i0 + 1) (by have := Hp.out; omega) j v (by rw [← hB]; exact hv)
            have HN : Hid (∀ w', Calls Tryd.prog 12 #[.int .i64 width, .agg A.toArray, .agg B.toArray] w' fun e w'' => e = .returned (.agg E.toArray) ∧ Upd (fun _ => False) w' w'') := fun w' => by
              rw [hA, hB, hE]
              exact HRn.out w' _ _ lA lB
            have HSt : Hid (dcells (up (Nd width) (row.take (2 * j))) ++ E = dcells (up (Nd width) (row.take (2 * (j + 1))))) := by
              show _ = _
              rw [show 2 * (j + 1) = 2 * j + 2 by omega, up_step (Nd width) row j (by have := Hp.out; have := Hi0.out; omega), dcells_snoc, hE, Hi0.out]
            have d3 : (i0 : Int) < (p : Int) + 1 := by omega
            have d4 : (i0 : Int) + 1 < (p : Int) + 1 := by omega
            have hi1 : IntKind.i64.wrap ((i0 : Int) + 1) = (i0 : Int) + 1 := IntWalk.i64_in _ (by omega)
            have hi2 : ((i0 : Int) + 1).toNat = i0 + 1 := by omega
            have hi3 : (0 : Int) ≤ (i0 : Int) + 1 := by omega
            have hj300 : j ≤ 300 := by have := Hi0.out; omega
            clear hA hB hE lA lB hcell
            go_wp2_with fail
            have HS_0 : Hid (Upd (own v6) wj wj.drew) := (Upd.refl _ _).drew
            refine wp_region_held_drew (S := Upd (own v6) wj) (by kernel_rfl) HS_0.out (fun _ => ?_)
            refine wpAnyH_take (i := 0) (oi := ⟨some 26, _, _, _, _, _⟩) (v := v6) rfl (by kernel_rfl) (by kernel_rfl) (by kernel_rfl) (fun _ _ _ h => h) (Or.inl ⟨by rfl, fun w hS => by go_simp⟩) HS_0.out ?_
            try simp only [Act.put, List.setIfInBounds_toArray, List.set_cons_zero, List.set_cons_succ]
            refine wpAnyH_take (i := 1) (oi := ⟨some 27, _, _, _, _, _⟩) (v := .int .i64 width) rfl (by kernel_rfl) (by kernel_rfl) (by kernel_rfl) (fun _ _ _ h => h) (Or.inl ⟨by rfl, fun w hS => by go_simp⟩) HS_0.out ?_
            try simp only [Act.put, List.setIfInBounds_toArray, List.set_cons_zero, List.set_cons_succ]
            refine wpAnyH_take (i := 2) (oi := ⟨some 28, _, _, _, _, _⟩) (v := .slice (some ⟨g5, 0, none⟩) (p + 1) c5) rfl (by kernel_rfl) (by kernel_rfl) (by kernel_rfl) (fun _ _ _ h => h) (Or.inl ⟨by rfl, fun w hS => by go_simp⟩) HS_0.out ?_
            try simp only [Act.put, List.setIfInBounds_toArray, List.set_cons_zero, List.set_cons_succ]
            refine wpAnyH_take (i := 3) (oi := ⟨some 29, _, _, _, _, _⟩) (v := .int .i64 (i0 : Int)) rfl (by kernel_rfl) (by kernel_rfl) (by kernel_rfl) (fun _ _ _ h => h) (Or.inl ⟨by rfl, fun w hS => by go_simp⟩) HS_0.out ?_
            try simp only [Act.put, List.setIfInBounds_toArray, List.set_cons_zero, List.set_cons_succ]
            refine wpAnyH_take (i := 4) (oi := ⟨some 30, _, _, _, _, _⟩) (v := .pointer (some ⟨g5, 0 + i0 * 32, none⟩)) rfl (by kernel_rfl) (by kernel_rfl) (by kernel_rfl) (fun _ _ _ h => h) (Or.inl ⟨by rfl, fun w hS => by go_simp⟩) HS_0.out ?_
            try simp only [Act.put, List.setIfInBounds_toArray, List.set_cons_zero, List.set_cons_succ]
            refine wpAnyH_take (i := 5) (oi := ⟨some 31, _, _, _, _, _⟩) rfl (by kernel_rfl) (by kernel_rfl) (by kernel_rfl) (fun _ _ _ h => h) (yieldsIf_load_mid (by rfl) _ _ rfl (g5) (0 + i0 * 32) rfl A _ (fun w h => HA0.out w h) Tryd.underlying23 rfl HAz.out) HS_0.out ?_
            try simp only [Act.put, List.setIfInBounds_toArray, List.set_cons_zero, List.set_cons_succ]
            refine wpAnyH_take (i := 6) (oi := ⟨some 32, _, _, _, _, _⟩) (v := .slice (some ⟨g5, 0, none⟩) (p + 1) c5) rfl (by kernel_rfl) (by kernel_rfl) (by kernel_rfl) (fun _ _ _ h => h) (Or.inl ⟨by rfl, fun w hS => by go_simp⟩) HS_0.out ?_
            try simp only [Act.put, List.setIfInBounds_toArray, List.set_cons_zero, List.set_cons_succ]
            refine wpAnyH_take (i := 7) (oi := ⟨some 33, _, _, _, _, _⟩) (v := .int .i64 (i0 : Int)) rfl (by kernel_rfl) (by kernel_rfl) (by kernel_rfl) (fun _ _ _ h => h) (Or.inl ⟨by rfl, fun w hS => by go_simp⟩) HS_0.out ?_
            try simp only [Act.put, List.setIfInBounds_toArray, List.set_cons_zero, List.set_cons_succ]
            refine wpAnyH_take (i := 8) (oi := ⟨some 34, _, _, _, _, _⟩) (v := .int .i64 ((i0 : Int) + 1)) rfl (by kernel_rfl) (by kernel_rfl) (by kernel_rfl) (fun _ _ _ h => h) (Or.inl ⟨by rfl, fun w hS => by go_simp⟩) HS_0.out ?_
            try simp only [Act.put, List.setIfInBounds_toArray, List.set_cons_zero, List.set_cons_succ]
            refine wpAnyH_take (i := 9) (oi := ⟨some 35, _, _, _, _, _⟩) (v := .pointer (some ⟨g5, 0 + (i0 + 1) * 32, none⟩)) rfl (by kernel_rfl) (by kernel_rfl) (by kernel_rfl) (fun _ _ _ h => h) (Or.inl ⟨by rfl, fun w hS => by go_simp⟩) HS_0.out ?_
            try simp only [Act.put, List.setIfInBounds_toArray, List.set_cons_zero, List.set_cons_succ]
            refine wpAnyH_take (i := 10) (oi := ⟨some 36, _, _, _, _, _⟩) rfl (by kernel_rfl) (by kernel_rfl) (by kernel_rfl) (fun _ _ _ h => h) (yieldsIf_load_mid (by rfl) _ _ rfl (g5) (0 + (i0 + 1) * 32) rfl B _ (fun w h => HB0.out w h) Tryd.underlying23 rfl HBz.out) HS_0.out ?_
            try simp only [Act.put, List.setIfInBounds_toArray, List.set_cons_zero, List.set_cons_succ]
            refine wpAnyH_ready (rs := [11]) (by kernel_rfl) (by simp) ?_
            refine AllReadyH.cons rfl (fun K hK => ?_) AllReadyH.nil
            go_simp
            refine (HN.out _).mono ?_
            rintro e w2 ⟨rfl, hu⟩
            have HS_1 : Hid (Upd (own v6) wj w2) := HS_0.out.trans (hu.mono (fun _ _ e => e.elim))
            have HO2 : Hid (w2.ownsRow 0 23 32 v6 j (dcells (up (Nd width) (row.take (2 * j))))) := own_upd (own_upd Ho6.out (Upd.drew (Upd.refl (fun _ => False) wj)) (fun _ _ => id)) hu (fun _ _ => id)
            clear hu
            refine hK.out _ _ HS_1.out (fun hHeld => ?_)
            clear hK K hHeld
            try simp only [Act.put, List.setIfInBounds_toArray, List.set_cons_zero, List.set_cons_succ]
            refine wpAnyH_ready (rs := [12]) (by kernel_rfl) (by simp) ?_
            refine AllReadyH.cons rfl (fun K hK => ?_) AllReadyH.nil
            rw [if_pos (by rfl)]
            refine wp_lit 1 (by decide) (by decide) _ rfl [E] (by kernel_rfl) rfl HE32.out ?_
            obtain ⟨w3, hw3⟩ : ∃ x, x = w2.alloc (.cells [E].flatten.toArray 23) := ⟨_, rfl⟩
            rw [← hw3]
            have hb3 : w3.heap[w2.heap.size]? = some (.cells E.toArray 23 (0, 0)) := by rw [hw3]; have h := heap_alloc_new w2 (.cells [E].flatten.toArray 23); simpa using h
            have hu3 : Upd (fun _ => False) w2 w3 := by rw [hw3]; exact (Upd.refl _ w2).alloc _
            have HS_2 : Hid (Upd (own v6) wj w3) := HS_1.out.trans (hu3.mono (fun _ _ e => e.elim))
            have HO3 : Hid (w3.ownsRow 0 23 32 v6 j (dcells (up (Nd width) (row.take (2 * j))))) := own_upd HO2.out hu3 (fun _ _ => id)
            have HB3 := Lib.hid hb3
            clear hw3 hb3 hu3
            refine hK.out _ _ HS_2.out (fun hHeld => ?_)
            clear hK K hHeld
            try simp only [Act.put, List.setIfInBounds_toArray, List.set_cons_zero, List.set_cons_succ]
            refine wpAnyH_ready (rs := [13]) (by kernel_rfl) (by simp) ?_
            refine AllReadyH.cons rfl (fun K hK => ?_) AllReadyH.nil
            rw [if_pos (by rfl)]
            refine wp_append_dig w3 (.tmp 26) (.tmp 38) rfl v6 j (dcells (up (Nd width) (row.take (2 * j)))) E rfl HO3.out w2.heap.size 1 rfl HB3.out HEl.out HEo.out (by omega) (fun a4 c4 w4 HO4 HU4 HA4 => ?_)
            have HS_3 : Hid (Upd (own v6) wj w4) := HS_2.out.trans (HU4.out.mono (fun _ _ e => .inl e))
            refine hK.out _ _ HS_3.out (fun hHeld => ?_)
            clear hK K hHeld
            try simp only [Act.put, List.setIfInBounds_toArray, List.set_cons_zero, List.set_cons_succ]
            refine wpAnyH_take (i := 14) (oi := ⟨some 6, _, _, _, _, _⟩) (v := .slice a4 (j + 1) c4) rfl (by kernel_rfl) (by kernel_rfl) (by kernel_rfl) (fun _ _ _ h => h) (Or.inl ⟨by rfl, fun w hS => by go_simp⟩) HS_3.out ?_
            try simp only [Act.put, List.setIfInBounds_toArray, List.set_cons_zero, List.set_cons_succ]
            refine wpAnyH_done (by kernel_rfl) ?_ _
            go_wp2
            go_roundw
            case rel =>
              refine ⟨j + 1, by have := Hi0.out; have := Hp.out; omega, by have := Hi0.out; congr 1; omega, by rw [← HSt.out]; exact HO4.out, fun k hk => ?_, HU6.out.trans (HS_3.out.mono (fun k _ e => .inr (Hv6.out k e)))⟩
              rcases HA4.out k hk with h | h
              · exact Hv6.out k h
              · have := HU6.out.size; have := HS_2.out.size; omega
            case measure => simp [intOf]; omega
          · have hgoI : decide ((i0 : Int) + 1 < (p : Int) + 1) = false := by simp; omega
            have hi1 : IntKind.i64.wrap ((i0 : Int) + 1) = (i0 : Int) + 1 := IntWalk.i64_in _ (by omega)
            have HUq : Hid (Upd (fun _ => False) w0 wj) := HU.out.trans (HU6.out.mono (fun _ _ e => e.elim))
            have hup : ∀ d ∈ up (Nd width) row, d.length = 32 := up32 width row H32.out
            have hul := up_len (Nd width) row
            have hmth : rootM width (up (Nd width) row) = rootM width ds := by
              rw [← Hroot.out]
              exact (up_mth (Nd width) (notM width) row (by have := Hp.out; omega) (by have := Hp.out; omega)).symm
            by_cases hodd : i0 = p
            · have hoI : (((p : Int) + 1) % 2 == 1) = true := by simp; have := Hi0.out; omega
              obtain ⟨A, hA⟩ : ∃ X, X = (row.getD p []).map u8 := ⟨_, rfl⟩
              have lA := getD32 H32.out p (by have := Hp.out; omega)
              have HAz : Hid ((Tryd.prog.info? 23).map (·.size) = some A.length) := by show _ = _; rw [size32, hA, List.length_map, lA]
              have HAl : Hid (A.length = 32) := by show _ = _; rw [hA, List.length_map, lA]
              have HAo : Hid (∀ u ∈ A, u.oneCell' = true) := by rw [hA]; exact one_of _
              have HA0 : Hid (∀ (j : Nat) v, A[j]? = some v → wj.cell? ⟨g5, 0 + p * 32 + j, none⟩ = some v) := fun j v hv => hcell wj (Upd.refl _ _) p (by have := Hp.out; omega) j v (by rw [← hA]; exact hv)
              have HUp : Hid (dcells (up (Nd width) (row.take (2 * j))) ++ A = dcells (up (Nd width) row) ∧ j + 1 = (up (Nd width) row).length) := by
                have e : 2 * j = p := by rw [← Hi0.out]; exact hodd
                refine ⟨?_, by rw [hul]; have := Hp.out; omega⟩
                rw [hA, ← e, ← dcells_snoc, up_odd (Nd width) row j (by have := Hp.out; omega)]
              have HO7 : Hid ((wj.alloc (.cells A.toArray 23)).ownsRow 0 23 32 v6 j (dcells (up (Nd width) (row.take (2 * j))))) := own_upd Ho6.out ((Upd.refl (fun _ => False) wj).alloc _) (fun _ _ => id)
              have hj4 : j + 1 ≤ 4000000000 := by have := Hi0.out; omega
              have d5 : (p : Int) + 1 - 1 = (p : Int) := by omega
              have Hmth := Lib.hid hmth
              have Hup := Lib.hid hup
              have Hul := Lib.hid hul
              clear hA lA hcell hmth hup hul
              go_wp2_with (first
                | ((with_reducible refine SumH.wpList_load_part (o := ⟨some 50, _, _, _, _, _⟩) ?_ _ (.tmp 49) ?_ g5 (0 + p * 32) ?_ A _ ?_ Tryd.underlying23 ?_ HAz.out ?_); rfl; rfl; (first | rfl | (rw [Nat.zero_add]; rfl)); (exact HA0.out); rfl; skip)
                | ((with_reducible refine wpList_lit (o := ⟨some 51, _, _, _, _, _⟩) ?_ _ rfl A ?_ HAl.out ?_); rfl; kernel_rfl)
                | (at_builtin; (refine wpList_append_dig _ (o := ⟨some 52, _, _, _, _, _⟩) ?_ (.tmp 44) (.tmp 51) ?_ v6 j (dcells (up (Nd width) (row.take (2 * j)))) A ?_ HO7.out wj.heap.size 1 ?_ (heap_alloc_new _ _) HAl.out HAo.out hj4 ?_); rfl; rfl; rfl; rfl; intro a8 c8 w8 HO8 HU8 HA8))
              go_roundw
              case rel =>
                refine ⟨up (Nd width) row, by rw [← HUp.out.1, ← HUp.out.2]; exact HO8.out, fun k hk => ?_, Hup.out, by rw [← HUp.out.2]; omega, by rw [← HUp.out.2]; have := Hi0.out; omega, Hmth.out, ?_⟩
                · rcases HA8.out k hk with h | h
                  · have := Hv6.out k h; have := lt_of_block HRq.out; omega
                  · simp at h
                    have := HU6.out.size; have := lt_of_block HRq.out; omega
                · exact (HUq.out.trans (((Upd.refl (fun _ => False) wj).alloc _).mono (fun _ _ e => e.elim))).trans (HU8.out.mono (fun k _ e => .inr (by have := Hv6.out k e; have := HU.out.size; omega)))
              case measure => simp [lenOf]; have := HUp.out.2; have := Hul.out; have := Hp.out; omega
            · have hoI : (((p : Int) + 1) % 2 == 1) = false := by simp; have := Hi0.out; omega
              have HUp : Hid (dcells (up (Nd width) (row.take (2 * j))) = dcells (up (Nd width) row) ∧ j = (up (Nd width) row).length) := by
                refine ⟨?_, by rw [hul]; have := Hp.out; have := Hi0.out; omega⟩
                rw [up_even (Nd width) row j (by have := Hp.out; have := Hi0.out; omega)]
              have Hmth := Lib.hid hmth
              have Hup := Lib.hid hup
              have Hul := Lib.hid hul
              obtain ⟨a6, c6, rfl⟩ := slice_form Ho6.out
              clear hcell hmth hup hul
              go_wp2
              go_roundw
              case rel => exact ⟨up (Nd width) row, by rw [← HUp.out.1, ← HUp.out.2]; exact Ho6.out, fun k hk => by have := Hv6.out k hk; have := lt_of_block HRq.out; omega, Hup.out, by rw [← HUp.out.2]; have := Hi0.out; omega, by rw [← HUp.out.2]; have := Hi0.out; omega, Hmth.out, HUq.out⟩
              case measure => simp [lenOf]; have := HUp.out.2; have := Hul.out; have := Hp.out; omega
      · obtain rfl : p = 0 := by omega
        have e1 : rootM width row = row.getD 0 [] := by
          have h := Hp.out
          match row, h with
          | [d], _ => rfl
        have HYr : Hid (Y = ((row.getD 0 []).map u8).toArray) := by show _ = _; rw [HYo.out, ← Hroot.out, e1]
        have HRa : Hid (∀ (j : Nat) v, Y.toList[j]? = some v → wq.cell? ⟨g5, 0 + j, none⟩ = some v) := fun j v hv => by
          rw [HYr.out, List.toList_toArray] at hv
          have h2 := Hown.out
          have h8 := own_range h2 H32.out 0 (by have := Hp.out; omega) j v hv
          simpa using h8
        have HYs2 : Hid ((Tryd.prog.info? 23).map (·.size) = some Y.toList.length) := by show _ = _; rw [Array.length_toList]; exact HYs.out
        clear e1
        go_wp2_with (first
          | ((with_reducible refine SumH.wpList_load_part (o := ⟨some 56, _, _, _, _, _⟩) ?_ _ (.tmp 55) ?_ g5 0 ?_ Y.toList _ ?_ Tryd.underlying23 ?_ HYs2.out ?_); rfl; rfl; rfl; (exact HRa.out); rfl; rw [Array.toArray_toList])
          | ((with_reducible refine wpList_store_new (o := ⟨none, .store 23 (.tmp 4) (.tmp 56), _, _, _, _⟩) ?_ _ (.tmp 4) (.tmp 56) ?_ w.heap.size Y ?_ ?_ 23 AD HRq.out HYs.out HYl.out HY1.out ?_); rfl; rfl; rfl; rfl; intro w4 Hg_w4 Hu_w4))
        refine bodyPost_ret (results_cell_row rfl _ _ w.heap.size 23 Y (0, 0) _ rfl Hg_w4.out Tryd.underlying23 rfl HYs.out) rfl ?_
        exact ⟨by rw [← HYo.out], (HU0.out.trans (HU.out.mono (fun _ _ e => e.elim))).trans (Hu_w4.out.mono (fun k hk e => .inr (by omega)))⟩
end Go.Proofs.YtgcionimhmbgeaaDoorR.TrR
