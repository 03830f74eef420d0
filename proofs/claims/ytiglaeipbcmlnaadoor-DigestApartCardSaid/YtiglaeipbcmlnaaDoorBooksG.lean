/-
  Texts put together: IntsW, OffR, BookM, BookK, BookS, BookA.
-/
import Derived.Test.YtiglaeipbcmlnaaDoorRowW
import Derived.Maps.AppendAt
import Derived.Laws.OwnMore
import Derived.ArgAppend
import Derived.Test.YtiglaeipbcmlnaaDoorBookW
import Derived.Deep.RegionHeld3
import Derived.BigQuiet
import Derived.Deep.RegionLaw
import Derived.Deep.LoopGhost
import Derived.Deep.CutBlock
import Derived.Deep.DeepCutAuto
import Derived.StillTailTactics

/-
  append of one number to a row of numbers of the call's own; rows of unlike elements lie apart.
-/
namespace Go.Proofs.YtiglaeipbcmlnaaDoor.IntsW
open Go.RowKit Mem RowW
set_option linter.unusedVariables false

theorem infoI : (Tryd.prog.info? 3).map (fun i => (i.zero, i.size, i.bytes)) = some (some (.int .i64 0), 1, 8) := by kernel_rfl
theorem own_apart {w : World} {b b' : Nat} {e e' : TypeId} {s s' : Nat} {v v' : Value} {n n' : Nat} {xs xs' : List Value} (h : w.ownsRow b e s v n xs) (h' : w.ownsRow b' e' s' v' n' xs') (hne : e ≠ e') : v.ownBlock = none ∨ v.ownBlock ≠ v'.ownBlock := by
  rcases h.2 with ⟨rfl, _⟩ | ⟨g, cap, cur, rfl, _, hg, _⟩
  · exact .inl rfl
  · refine .inr fun heq => ?_
    rcases h'.2 with ⟨rfl, _⟩ | ⟨g', cap', cur', rfl, _, hg', _⟩
    · simp [Value.ownBlock] at heq
    · have e1 : g = g' := by simpa [Value.ownBlock] using heq
      subst e1
      rw [hg] at hg'
      injection hg' with h1
      injection h1 with _ h2
      exact hne h2
theorem slice_form {w : World} {base n s : Nat} {e : TypeId} {v : Value} {xs : List Value} (h : w.ownsRow base e s v n xs) : ∃ ao cap, v = .slice ao n cap := by
  rcases h.2 with ⟨rfl, rfl⟩ | ⟨g, cap, cur, rfl, _⟩
  · exact ⟨_, _, rfl⟩
  · exact ⟨_, _, rfl⟩
theorem own_upd {S : Nat → Prop} {w w' : World} {b n s : Nat} {e : TypeId} {v : Value} {xs : List Value} (h : w.ownsRow b e s v n xs) (hu : Upd S w w') (hd : ∀ k, own v k → ¬ S k) : w'.ownsRow b e s v n xs := by
  refine ⟨h.1, ?_⟩
  rcases h.2 with h2 | ⟨g, cap, cur, rfl, hg, hh, r⟩
  · exact .inl h2
  · exact .inr ⟨g, cap, cur, rfl, hg, (hu.block g (lt_of_block hh) (hd g rfl)).trans hh, r⟩
end Go.Proofs.YtiglaeipbcmlnaaDoor.IntsW

/-
  A row of one-cell values at an offset of its block (what 'l = l[1:]' leaves), and append of one value to it.
-/
namespace Go.Proofs.YtiglaeipbcmlnaaDoor.OffR
open Go.RowKit Mem RowW
set_option linter.unusedVariables false

/-- v is a slice of values of the type e that reads as vs -/
def OffR (w : World) (e : TypeId) (v : Value) (vs : List Value) : Prop :=
  (v = .slice none 0 0 ∧ vs = []) ∨
  ∃ g off cap cur, v = .slice (some ⟨g, off, none⟩) vs.length cap ∧ w.heap[g]? = some (.cells cur e (0, 0)) ∧ vs.length ≤ cap ∧ cap ≤ maxLen ∧ off + cap ≤ cur.size ∧
    ∀ i, i < vs.length → cur[off + i]? = vs[i]?

theorem OffR.nil (w : World) (e : TypeId) : OffR w e (.slice none 0 0) [] := .inl ⟨rfl, rfl⟩
theorem OffR.lt {w : World} {e : TypeId} {v : Value} {vs : List Value} (h : OffR w e v vs) {k : Nat} (hk : own v k) : k < w.heap.size ∧ ∃ cur, w.heap[k]? = some (.cells cur e (0, 0)) := by
  rcases h with ⟨rfl, _⟩ | ⟨g, off, cap, cur, rfl, hg, _⟩
  · simp [own, Value.ownBlock] at hk
  · simp [own, Value.ownBlock] at hk
    subst hk
    exact ⟨lt_of_block hg, cur, hg⟩
theorem OffR.upd {S : Nat → Prop} {w w' : World} {e : TypeId} {v : Value} {vs : List Value} (h : OffR w e v vs) (hu : Upd S w w') (hd : ∀ k, own v k → ¬ S k) : OffR w' e v vs := by
  rcases h with h | ⟨g, off, cap, cur, rfl, hg, r⟩
  · exact .inl h
  · exact .inr ⟨g, off, cap, cur, rfl, (hu.block g (lt_of_block hg) (hd g rfl)).trans hg, r⟩
theorem OffR.form {w : World} {e : TypeId} {v : Value} {vs : List Value} (h : OffR w e v vs) : ∃ ao cap, v = .slice ao vs.length cap ∧ vs.length ≤ cap ∧ cap ≤ maxLen := by
  rcases h with ⟨rfl, rfl⟩ | ⟨g, off, cap, cur, rfl, _, h1, h2, _⟩
  · exact ⟨none, 0, rfl, Nat.le_refl _, Nat.zero_le _⟩
  · exact ⟨_, _, rfl, h1, h2⟩
theorem OffR.some {w : World} {e : TypeId} {v : Value} {vs : List Value} (h : OffR w e v vs) (hn : 0 < vs.length) : ∃ g off cap, v = .slice (some ⟨g, off, none⟩) vs.length cap ∧ vs.length ≤ cap ∧ cap ≤ maxLen ∧
    (∀ i, i < vs.length → w.cell? ⟨g, off + i, none⟩ = some (vs.getD i undef)) ∧ (2 ≤ vs.length → OffR w e (.slice (some ⟨g, off + 1, none⟩) (vs.length - 1) (cap - 1)) vs.tail) := by
  rcases h with ⟨rfl, rfl⟩ | ⟨g, off, cap, cur, rfl, hg, h1, h2, h3, h4⟩
  · simp at hn
  · refine ⟨g, off, cap, rfl, h1, h2, fun i hi => ?_, fun h => .inr ⟨g, off + 1, cap - 1, cur, by rw [List.length_tail], hg, by rw [List.length_tail]; omega, by omega, by omega, fun i hi => ?_⟩⟩
    · rw [cell_of_row _ _ _ _ _ _ hg, h4 i hi, List.getD_eq_getElem?_getD, List.getElem?_eq_getElem hi]
      rfl
    · rw [List.length_tail] at hi
      rw [List.getElem?_tail, ← h4 (i + 1) (by omega)]
      congr 1
      omega

theorem infoL : (Tryd.prog.info? 25).map (fun i => (i.zero, i.size, i.bytes)) = some (some (.slice none 0 0), 1, 24) := by kernel_rfl

theorem OffR.of_own {w : World} {base n : Nat} {e : TypeId} {v : Value} {vs : List Value} (h : w.ownsRow base e 1 v n vs) : OffR w e v vs ∧ ∀ k, own v k → base ≤ k := by
  refine ⟨?_, fun k hk => (h.lt k hk).1⟩
  have hl : vs.length = n := by have := h.1; omega
  rcases h.2 with ⟨rfl, rfl⟩ | ⟨g, cap, cur, rfl, _, hg, h1, h2, h3, h4⟩
  · exact .inl ⟨rfl, List.eq_nil_of_length_eq_zero hl⟩
  · refine .inr ⟨g, 0, cap, cur, by rw [hl], hg, by omega, h2, by omega, fun i hi => ?_⟩
    rw [← h4, List.getElem?_take_of_lt (by omega), Nat.zero_add, Array.getElem?_toList]

/-- append of one value -/
theorem run_append_off (w : World) (ty : TypeId) (v u : Value) (vs : List Value) (g c : Nat) (h : OffR w 25 v vs) (hg : w.heap[g]? = some (.cells #[u] 25 (0, 0))) (hgv : ¬ own v g) (hu : u.oneCell' = true) (hn : vs.length ≤ 4100) :
    ∃ v' w', (Builtin.append_ #[37, 37] ty #[v, .slice (some ⟨g, 0, none⟩) 1 c]).run Tryd.prog w = .ok v' w' ∧ OffR w' 25 v' (vs ++ [u]) ∧ Upd (own v) w w' ∧ ∀ k, own v' k → own v k ∨ w.heap.size ≤ k := by
  obtain ⟨i0, hi, hz0, hz1, hz2⟩ := info_parts infoL
  have hnews : ∀ j x, [u][j]? = some x → w.cell? ((⟨g, 0, none⟩ : Addr).add j) = some x := fun j x hx => by
    have hj : j = 0 := by have := (List.getElem?_eq_some_iff.1 hx).1; simpa using this
    subst hj
    rw [add_none, cell_of_row _ _ _ _ _ _ hg]
    simpa using hx
  have h1 : ∀ x ∈ [u], x.oneCell' = true := fun x hx => by rw [List.mem_singleton.1 hx]; exact hu
  have hM : vs.length + 1 ≤ maxLen := by unfold maxLen; omega
  rcases h with ⟨rfl, rfl⟩ | ⟨b, off, cap, cur, rfl, hb, hc1, hc2, hc3, hc4⟩
  · obtain ⟨v', w', hr, r1, r2, _⟩ := run_append_own (P := Tryd.prog) w w.heap.size 37 ty 25 i0 (.slice none 0 0) 1 24 Tryd.underlying37 hi hz0 hz1 hz2 rfl (by decide) (.slice none 0 0) 0 [] (World.ownsRow_nil w _ _ 1) ⟨g, 0, none⟩ 1 c [u] rfl hnews h1 (by unfold maxLen; omega) (by omega) (Nat.le_refl _)
    have := OffR.of_own r1
    exact ⟨v', w', hr, this.1, Upd.grown r2 (fun k hk => by simp [Value.ownBlock] at hk), fun k hk => .inr (this.2 k hk)⟩
  · by_cases hroom : vs.length + 1 ≤ cap
    · have hr := run_append_room_cells (P := Tryd.prog) w 37 ty 25 i0 Tryd.underlying37 hi b off vs.length cap ⟨g, 0, none⟩ 1 c [u] (by rw [hz1]; rfl) hnews h1 hroom
        (fun j hj => by
          obtain rfl : j = 0 := by simpa using hj
          rw [hz1, cell_of_row _ _ _ _ _ _ hb, Array.getElem?_eq_getElem (by omega)]; rfl)
        (fun j hj => by simp [World.frozen?, hb])
      rw [hz1, Nat.mul_one] at hr
      refine ⟨_, _, hr, ?_, Upd.setCell (S := own (.slice (some ⟨b, off, none⟩) vs.length cap)) (p := ⟨b, off + vs.length, none⟩) (Upd.refl _ w) (.inl rfl) u, fun k hk => .inl hk⟩
      refine .inr ⟨b, off, cap, cur.setIfInBounds (off + vs.length) u, by simp, heap_setCell_same w b _ _ _ u hb, by simp; omega, hc2, by simpa using hc3, fun i hi => ?_⟩
      rw [List.length_append, List.length_singleton] at hi
      rw [Array.getElem?_setIfInBounds]
      by_cases he : i = vs.length
      · subst he
        rw [if_pos rfl, if_pos (by omega)]
        simp
      · rw [if_neg (by omega), hc4 i (by omega), List.getElem?_append_left (by omega)]
    · obtain ⟨v', w', hr, r1, r2⟩ := run_append_arg_grows (P := Tryd.prog) w 37 ty 25 i0 (.slice none 0 0) 1 24 Tryd.underlying37 hi hz0 hz1 hz2 rfl (by decide) ⟨b, off, none⟩ vs.length cap vs (by omega)
        (fun j x hx => by
          have hj := (List.getElem?_eq_some_iff.1 hx).1
          rw [add_none, cell_of_row _ _ _ _ _ _ hb, hc4 j hj, hx]) ⟨g, 0, none⟩ 1 c [u] rfl hnews (by omega) hM (by omega)
      have := OffR.of_own r1
      exact ⟨v', w', hr, this.1, (Upd.grown r2 (S := fun _ => False) (fun k hk => by cases hk)).mono (fun _ _ h => h.elim), fun k hk => .inr (this.2 k hk)⟩

theorem wp_append_off (w : World) {o : Oper} {a : Act} {K : Act → World → Prop} {Q : Exit → Act → World → Prop} (sl x : Operand)
    (ho : o.op = .call { callee := .builtin .append, args := #[sl, x], argTypes := #[37, 37] })
    (v u : Value) (vs : List Value) (g c : Nat) (hs : a.eval sl = v) (h : OffR w 25 v vs) (hx : a.eval x = .slice (some ⟨g, 0, none⟩) 1 c) (hg : w.heap[g]? = some (.cells #[u] 25 (0, 0))) (hgv : ¬ own v g) (hu : u.oneCell' = true) (hn : vs.length ≤ 4100)
    (m : Nat) (hm : m = vs.length + 1)
    (hK : ∀ ao cap w', Hid (OffR w' 25 (.slice ao m cap) (vs ++ [u])) → Hid (Upd (own v) w w') → Hid (∀ k, own (.slice ao m cap) k → own v k ∨ w.heap.size ≤ k) → K (a.put o.dst (.slice ao m cap)) w') : Oper.wp Tryd.prog o a w K Q := by
  obtain ⟨v', w', hrun, r1, r2, r3⟩ := run_append_off w o.type v u vs g c h hg hgv hu hn
  unfold Oper.wp
  simp [execOp, ho, resolve, invoke, builtin, hs, hx, hrun, Result.andThen]
  obtain ⟨ao, cap, rfl, _⟩ := r1.form
  have e : (vs ++ [u]).length = m := by rw [hm]; simp
  rw [e] at r1 r3 ⊢
  exact hK ao cap w' r1 r2 r3
theorem wpList_append_off (w : World) {ops : Array Oper} {rest : List Oper} {o : Oper} {a : Act} {Q : Exit → Act → World → Prop} (hgd : o.guard = none) (sl x : Operand)
    (ho : o.op = .call { callee := .builtin .append, args := #[sl, x], argTypes := #[37, 37] })
    (v u : Value) (vs : List Value) (g c : Nat) (hs : a.eval sl = v) (h : OffR w 25 v vs) (hx : a.eval x = .slice (some ⟨g, 0, none⟩) 1 c) (hg : w.heap[g]? = some (.cells #[u] 25 (0, 0))) (hgv : ¬ own v g) (hu : u.oneCell' = true) (hn : vs.length ≤ 4100)
    (m : Nat) (hm : m = vs.length + 1)
    (hK : ∀ ao cap w', Hid (OffR w' 25 (.slice ao m cap) (vs ++ [u])) → Hid (Upd (own v) w w') → Hid (∀ k, own (.slice ao m cap) k → own v k ∨ w.heap.size ≤ k) → wpList Tryd.prog ops Q rest (a.put o.dst (.slice ao m cap)) w') : wpList Tryd.prog ops Q (o :: rest) a w :=
  wpList_plain hgd fun K hK' => wp_append_off w sl x ho v u vs g c hs h hx hg hgv hu hn m hm fun ao cap w' a1 a2 a3 => hK' _ _ (hK ao cap w' a1 a2 a3)
theorem step_append_off (w : World) {ops : Array Oper} {o : Oper} {a : Act} {K : Act → World → Prop} {Q : Exit → Act → World → Prop} {E : Prop} (hgd : o.guard = none) (sl x : Operand)
    (ho : o.op = .call { callee := .builtin .append, args := #[sl, x], argTypes := #[37, 37] })
    (v u : Value) (vs : List Value) (g c : Nat) (hs : a.eval sl = v) (h : OffR w 25 v vs) (hx : a.eval x = .slice (some ⟨g, 0, none⟩) 1 c) (hg : w.heap[g]? = some (.cells #[u] 25 (0, 0))) (hgv : ¬ own v g) (hu : u.oneCell' = true) (hn : vs.length ≤ 4100)
    (m : Nat) (hm : m = vs.length + 1)
    (hK : ∀ ao cap w', Hid (OffR w' 25 (.slice ao m cap) (vs ++ [u])) → Hid (Upd (own v) w w') → Hid (∀ k, own (.slice ao m cap) k → own v k ∨ w.heap.size ≤ k) → K (a.put o.dst (.slice ao m cap)) w') : if Region.wanted o (yielded ops a.tmps) = true then Oper.wp Tryd.prog o a w K Q else E := by
  have hw : Region.wanted o (yielded ops a.tmps) = true := by simp [Region.wanted, hgd]
  rw [if_pos hw]
  exact wp_append_off w sl x ho v u vs g c hs h hx hg hgv hu hn m hm hK
end Go.Proofs.YtiglaeipbcmlnaaDoor.OffR

/-
  docketbook.Book[byte]: what a book holds.
-/
namespace Go.Proofs.YtiglaeipbcmlnaaDoor.BookM
open Go.RowKit Sha Mem RowW CopyW BookW OffR
set_option linter.unusedVariables false

/-- one list that is kept: the list, the copy, what both read as -/
structure Ent where
  v : Value
  u : Value
  xs : List UInt8

/-- the cells of a struct, but for the book's own four -/
def But (o : Nat) (cs cs' : List Value) : Prop := cs'.length = cs.length ∧ ∀ i, i < o ∨ o + 4 ≤ i → cs'[i]? = cs[i]?
theorem But.refl (o : Nat) (cs : List Value) : But o cs cs := ⟨rfl, fun _ _ => rfl⟩
theorem But.trans {o : Nat} {a b c : List Value} (h : But o a b) (k : But o b c) : But o a c := ⟨k.1.trans h.1, fun i hi => (k.2 i hi).trans (h.2 i hi)⟩
theorem But.set {o : Nat} {cs cs' : List Value} (h : But o cs cs') (j : Nat) (hj : o ≤ j ∧ j < o + 4) (v : Value) : But o cs (cs'.set j v) :=
  ⟨by rw [List.length_set]; exact h.1, fun i hi => by rw [List.getElem?_set_ne (by omega)]; exact h.2 i hi⟩

/-- the list is as it was kept, in blocks of O and R -/
structure EntOk (w : World) (R O : Nat → Prop) (e : Ent) : Prop where
  own : w.ownsRow 0 5 1 e.v e.xs.length (e.xs.map u8)
  was : w.ownsRow 0 5 1 e.u e.xs.length (e.xs.map u8)
  inO : ∀ k, Mem.own e.v k → O k
  inR : ∀ k, Mem.own e.u k → R k
  len : e.xs.length ≤ 140737488355328

/-- a book lies in block b from cell o on; its rows lie in R, the lists that it keeps in O -/
structure Bk (w : World) (b : Nat) (T : TypeId) (cs : List Value) (o : Nat) (K : List Ent) (R O : Nat → Prop) (lv wv : Value) (hv : Int) : Prop where
  row : Row w b T cs
  c0 : cs[o]? = some lv
  c1 : cs[o + 1]? = some wv
  c2 : cs[o + 2]? = some (.int .i64 hv)
  c3 : cs[o + 3]? = some (.bool false)
  lrow : OffR w 25 lv (K.map Ent.v)
  wrow : OffR w 25 wv (K.map Ent.u)
  ents : ∀ e ∈ K, EntOk w R O e
  inL : ∀ k, Mem.own lv k → R k
  inW : ∀ k, Mem.own wv k → R k
  lw : ∀ k, Mem.own lv k → ¬ Mem.own wv k
  apart : K.Pairwise (fun e f => ∀ k, Mem.own e.v k → ¬ Mem.own f.v k)

def BkW (w : World) (b : Nat) (T : TypeId) (cs : List Value) (o : Nat) (K : List Ent) (R O : Nat → Prop) : Prop := ∃ lv wv hv, Bk w b T cs o K R O lv wv hv

theorem own_lt {w : World} {base n s : Nat} {e : TypeId} {v : Value} {xs : List Value} (h : w.ownsRow base e s v n xs) {k : Nat} (hk : Mem.own v k) : k < w.heap.size ∧ ∃ cur, w.heap[k]? = some (.cells cur e (0, 0)) := by
  refine ⟨(h.lt k hk).2, ?_⟩
  rcases h.2 with ⟨rfl, _⟩ | ⟨g, cap, cur, rfl, _, hg, _⟩
  · simp [Mem.own, Value.ownBlock] at hk
  · simp [Mem.own, Value.ownBlock] at hk
    subst hk
    exact ⟨cur, hg⟩

theorem EntOk.upd {S R O : Nat → Prop} {w w' : World} {e : Ent} (h : EntOk w R O e) (hu : Upd S w w') (h1 : ∀ k, R k → k < w.heap.size → ¬ S k) (h2 : ∀ k, O k → k < w.heap.size → ¬ S k) : EntOk w' R O e :=
  ⟨IntsW.own_upd h.own hu fun k hk => h2 k (h.inO k hk) (own_lt h.own hk).1, IntsW.own_upd h.was hu fun k hk => h1 k (h.inR k hk) (own_lt h.was hk).1, h.inO, h.inR, h.len⟩
theorem Bk.upd {S R O : Nat → Prop} {w w' : World} {b : Nat} {T : TypeId} {cs : List Value} {o : Nat} {K : List Ent} {lv wv : Value} {hv : Int} (h : Bk w b T cs o K R O lv wv hv) (hu : Upd S w w') (hb : ¬ S b) (h1 : ∀ k, R k → k < w.heap.size → ¬ S k) (h2 : ∀ k, O k → k < w.heap.size → ¬ S k) :
    Bk w' b T cs o K R O lv wv hv :=
  ⟨h.row.upd hu hb, h.c0, h.c1, h.c2, h.c3, h.lrow.upd hu fun k hk => h1 k (h.inL k hk) (h.lrow.lt hk).1, h.wrow.upd hu fun k hk => h1 k (h.inW k hk) (h.wrow.lt hk).1, fun e he => (h.ents e he).upd hu h1 h2, h.inL, h.inW, h.lw, h.apart⟩
theorem BkW.upd {S R O : Nat → Prop} {w w' : World} {b : Nat} {T : TypeId} {cs : List Value} {o : Nat} {K : List Ent} (h : BkW w b T cs o K R O) (hu : Upd S w w') (hb : ¬ S b) (h1 : ∀ k, R k → k < w.heap.size → ¬ S k) (h2 : ∀ k, O k → k < w.heap.size → ¬ S k) : BkW w' b T cs o K R O := by
  obtain ⟨lv, wv, hv, h⟩ := h
  exact ⟨lv, wv, hv, h.upd hu hb h1 h2⟩
theorem BkW.kept {R O : Nat → Prop} {w w' : World} {b : Nat} {T : TypeId} {cs : List Value} {o : Nat} {K : List Ent} (h : BkW w b T cs o K R O) (hu : Upd (fun _ => False) w w') : BkW w' b T cs o K R O :=
  h.upd hu id (fun _ _ _ => id) (fun _ _ _ => id)
/-- the blocks may be told more loosely, and each of them is there -/
theorem BkW.mono {R O R' O' : Nat → Prop} {w : World} {b : Nat} {T : TypeId} {cs : List Value} {o : Nat} {K : List Ent} (h : BkW w b T cs o K R O) (h1 : ∀ k, R k → k < w.heap.size → R' k) (h2 : ∀ k, O k → k < w.heap.size → O' k) : BkW w b T cs o K R' O' := by
  obtain ⟨lv, wv, hv, h⟩ := h
  exact ⟨lv, wv, hv, h.row, h.c0, h.c1, h.c2, h.c3, h.lrow, h.wrow, fun e he => ⟨(h.ents e he).own, (h.ents e he).was, fun k hk => h2 k ((h.ents e he).inO k hk) (own_lt (h.ents e he).own hk).1, fun k hk => h1 k ((h.ents e he).inR k hk) (own_lt (h.ents e he).was hk).1, (h.ents e he).len⟩,
    fun k hk => h1 k (h.inL k hk) (h.lrow.lt hk).1, fun k hk => h1 k (h.inW k hk) (h.wrow.lt hk).1, h.lw, h.apart⟩
/-- a book that holds nothing yet -/
theorem BkW.empty {w : World} {b : Nat} {T : TypeId} {cs : List Value} {o : Nat} (hr : Row w b T cs) (h0 : cs[o]? = some (.slice none 0 0)) (h1 : cs[o + 1]? = some (.slice none 0 0)) (h2 : cs[o + 2]? = some (.int .i64 0)) (h3 : cs[o + 3]? = some (.bool false)) :
    BkW w b T cs o [] (fun _ => False) (fun _ => False) :=
  ⟨_, _, 0, hr, h0, h1, h2, h3, OffR.nil _ _, OffR.nil _ _, by simp, fun k hk => by simp [Mem.own, Value.ownBlock] at hk, fun k hk => by simp [Mem.own, Value.ownBlock] at hk, fun k hk => by simp [Mem.own, Value.ownBlock] at hk, List.Pairwise.nil⟩
theorem Bk.far {R O : Nat → Prop} {w : World} {b : Nat} {T : TypeId} {cs : List Value} {o : Nat} {K : List Ent} {lv wv : Value} {hv : Int} (h : Bk w b T cs o K R O lv wv hv) (hT : T ≠ 25) {v : Value} {vs : List Value} (hv : OffR w 25 v vs) : ¬ Mem.own v b := fun hk => by
  obtain ⟨_, cur, hc⟩ := hv.lt hk
  have h2 := h.row
  unfold Row at h2
  rw [hc] at h2
  injection h2 with h2
  injection h2 with _ h2
  exact hT h2.symm
theorem Bk.far8 {R O : Nat → Prop} {w : World} {b : Nat} {T : TypeId} {cs : List Value} {o : Nat} {K : List Ent} {lv wv : Value} {hv : Int} (h : Bk w b T cs o K R O lv wv hv) (hT : T ≠ 5) {v : Value} {n : Nat} {vs : List Value} (hv : w.ownsRow 0 5 1 v n vs) : ¬ Mem.own v b := fun hk => by
  obtain ⟨_, cur, hc⟩ := own_lt hv hk
  have h2 := h.row
  unfold Row at h2
  rw [hc] at h2
  injection h2 with h2
  injection h2 with _ h2
  exact hT h2.symm
/-- the struct's own cells turn; of the lists the last ones stay -/
theorem Bk.turn {R O : Nat → Prop} {w w' : World} {b : Nat} {T : TypeId} {cs cs' : List Value} {o : Nat} {K K' : List Ent} {lv wv lv' wv' : Value} {hv hv' : Int} (h : Bk w b T cs o K R O lv wv hv)
    (hu : Upd (fun k => k = b) w w') (hT : T ≠ 25) (hT8 : T ≠ 5) (hr : Row w' b T cs') (h0 : cs'[o]? = some lv') (h1 : cs'[o + 1]? = some wv') (h2 : cs'[o + 2]? = some (.int .i64 hv')) (h3 : cs'[o + 3]? = some (.bool false))
    (hK : K' <:+ K) (hl : OffR w 25 lv' (K'.map Ent.v)) (hw : OffR w 25 wv' (K'.map Ent.u)) (hlv : ∀ k, Mem.own lv' k → Mem.own lv k) (hwv : ∀ k, Mem.own wv' k → Mem.own wv k) : Bk w' b T cs' o K' R O lv' wv' hv' := by
  refine ⟨hr, h0, h1, h2, h3, hl.upd hu (fun k hk e => h.far hT hl (e ▸ hk)), hw.upd hu (fun k hk e => h.far hT hw (e ▸ hk)), fun f hf => ?_, fun k hk => h.inL k (hlv k hk), fun k hk => h.inW k (hwv k hk), fun k hk hk' => h.lw k (hlv k hk) (hwv k hk'), h.apart.sublist hK.sublist⟩
  have := h.ents f (hK.subset hf)
  exact ⟨IntsW.own_upd this.own hu (fun k hk e => h.far8 hT8 this.own (e ▸ hk)), IntsW.own_upd this.was hu (fun k hk e => h.far8 hT8 this.was (e ▸ hk)), this.inO, this.inR, this.len⟩

theorem off_far {w : World} {b : Nat} {T : TypeId} {cs : List Value} (h : Row w b T cs) (hT : T ≠ 25) {v : Value} {vs : List Value} (hv : OffR w 25 v vs) {k : Nat} (hk : Mem.own v k) : k ≠ b := fun e => by
  subst e
  obtain ⟨_, cur, hc⟩ := hv.lt hk
  unfold Row at h
  rw [hc] at h
  injection h with h2
  injection h2 with _ h2
  exact hT h2.symm
theorem own_far {w : World} {b : Nat} {T : TypeId} {cs : List Value} (h : Row w b T cs) (hT : T ≠ 5) {v : Value} {n : Nat} {vs : List Value} (hv : w.ownsRow 0 5 1 v n vs) {k : Nat} (hk : Mem.own v k) : k ≠ b := fun e => by
  subst e
  obtain ⟨_, cur, hc⟩ := own_lt hv hk
  unfold Row at h
  rw [hc] at h
  injection h with h2
  injection h2 with _ h2
  exact hT h2.symm
theorem own_off {w : World} {v v' : Value} {n : Nat} {vs vs' : List Value} (h : w.ownsRow 0 5 1 v n vs) (h' : OffR w 25 v' vs') {k : Nat} (hk : Mem.own v k) (hk' : Mem.own v' k) : False := by
  obtain ⟨_, cur, hc⟩ := own_lt h hk
  obtain ⟨_, cur', hc'⟩ := h'.lt hk'
  rw [hc] at hc'
  injection hc' with h2
  injection h2 with _ h2
  exact absurd h2 (by decide)
/-- one list more -/
theorem Bk.push {R O : Nat → Prop} {w w3 w7 : World} {b : Nat} {T : TypeId} {cs : List Value} {o : Nat} {K : List Ent} {lv wv lv2 wv2 v u : Value} {hv : Int} {xs : List UInt8} (h : Bk w b T cs o K R O lv wv hv) (hT : T ≠ 25) (hT8 : T ≠ 5)
    (hown : w.ownsRow 0 5 1 v xs.length (xs.map u8)) (hnew : ∀ k, Mem.own v k → ¬ O k) (hlen : xs.length ≤ 140737488355328)
    (hu3 : Upd (fun k => k = b ∨ Mem.own lv k) w w3) (row3 : Row w3 b T (cs.set o lv2)) (l3 : OffR w3 25 lv2 (K.map Ent.v ++ [v])) (n3 : ∀ k, Mem.own lv2 k → Mem.own lv k ∨ w.heap.size ≤ k)
    (hu7 : Upd (fun k => k = b ∨ Mem.own wv k) w3 w7) (row7 : Row w7 b T ((cs.set o lv2).set (o + 1) wv2)) (r7 : OffR w7 25 wv2 (K.map Ent.u ++ [u])) (n7 : ∀ k, Mem.own wv2 k → Mem.own wv k ∨ w3.heap.size ≤ k)
    (u7 : w7.ownsRow 0 5 1 u xs.length (xs.map u8)) (nu : ∀ k, Mem.own u k → w3.heap.size ≤ k) :
    Bk w7 b T ((cs.set o lv2).set (o + 1) wv2) o (K ++ [⟨v, u, xs⟩]) (fun k => R k ∨ w.heap.size ≤ k) (fun k => O k ∨ Mem.own v k) lv2 wv2 hv ∧ Upd (fun k => k = b ∨ R k) w w7 := by
  have hU : Upd (fun k => k = b ∨ Mem.own lv k ∨ Mem.own wv k) w w7 := (hu3.mono (fun k _ e => e.elim .inl (fun e => .inr (.inl e)))).trans (hu7.mono (fun k _ e => .inl (e.elim .inl (fun e => .inr (.inr e)))))
  have h8 : ∀ {x : Value} {n : Nat} {vs : List Value}, w.ownsRow 0 5 1 x n vs → ∀ k, Mem.own x k → ¬ (k = b ∨ Mem.own lv k ∨ Mem.own wv k) := fun hx k hk e => by
    rcases e with e | e | e
    · exact own_far h.row hT8 hx hk e
    · exact own_off hx h.lrow hk e
    · exact own_off hx h.wrow hk e
  have l0 : o < cs.length := (List.getElem?_eq_some_iff.1 h.c0).1
  have l1 : o + 1 < cs.length := (List.getElem?_eq_some_iff.1 h.c1).1
  refine ⟨⟨row7, ?_, ?_, ?_, ?_, ?_, ?_, ?_, ?_, ?_, ?_, ?_⟩, hU.mono (fun k _ e => ?_)⟩
  · rw [List.getElem?_set_ne (by omega), List.getElem?_set_self l0]
  · rw [List.getElem?_set_self (by rw [List.length_set]; exact l1)]
  · rw [List.getElem?_set_ne (by omega), List.getElem?_set_ne (by omega)]; exact h.c2
  · rw [List.getElem?_set_ne (by omega), List.getElem?_set_ne (by omega)]; exact h.c3
  · rw [List.map_append]
    refine l3.upd hu7 (fun k hk e => ?_)
    rcases e with e | e
    · exact off_far row3 hT l3 hk e
    · rcases n3 k hk with h1 | h1
      · exact h.lw k h1 e
      · have := (h.wrow.lt e).1; omega
  · rw [List.map_append]; exact r7
  · intro e he
    rcases List.mem_append.1 he with he | he
    · have := h.ents e he
      exact ⟨IntsW.own_upd this.own hU (h8 this.own), IntsW.own_upd this.was hU (h8 this.was), fun k hk => .inl (this.inO k hk), fun k hk => .inl (this.inR k hk), this.len⟩
    · rw [List.mem_singleton.1 he]
      exact ⟨IntsW.own_upd hown hU (h8 hown), u7, fun k hk => .inr hk, fun k hk => .inr (Nat.le_trans hu3.size (nu k hk)), hlen⟩
  · intro k hk
    exact (n3 k hk).elim (fun h1 => .inl (h.inL k h1)) .inr
  · intro k hk
    exact (n7 k hk).elim (fun h1 => .inl (h.inW k h1)) (fun h1 => .inr (Nat.le_trans hu3.size h1))
  · intro k hk hk'
    rcases n7 k hk' with h1 | h1
    · rcases n3 k hk with h2 | h2
      · exact h.lw k h2 h1
      · have := (h.wrow.lt h1).1; omega
    · have := (l3.lt hk).1; omega
  · refine List.pairwise_append.2 ⟨h.apart, List.pairwise_singleton _ _, fun e he f hf k hk hk' => ?_⟩
    rw [List.mem_singleton.1 hf] at hk'
    exact hnew k hk' ((h.ents e he).inO k hk)
  · rcases e with e | e | e
    · exact .inl e
    · exact .inr (h.inL k e)
    · exact .inr (h.inW k e)

/-- what is stored is what stood there -/
theorem setCell_self {w : World} {a : Addr} {v : Value} (h : w.cell? a = some v) : w.setCell a v = w := by
  have e : (w.setCell a v).heap = w.heap := by
    apply Array.ext_getElem?
    intro i
    unfold World.setCell
    simp only [Array.getElem?_modify]
    unfold World.cell? at h
    by_cases hi : a.block = i
    · subst hi
      rw [if_pos rfl]
      cases hb : w.heap[a.block]? with
      | none => rfl
      | some ob =>
        rw [hb] at h
        cases ob with
        | cells c t fr =>
          simp only at h
          cases hs : a.spot.isSome
          · rw [hs] at h
            simp at h
            simp
            apply Array.ext_getElem?
            intro j
            rw [Array.getElem?_setIfInBounds]
            split
            · rename_i hj; subst hj; split
              · exact h.symm
              · rename_i hj; rw [Array.getElem?_eq_none (by omega)]
            · rfl
          · simp
        | _ => rfl
    · rw [if_neg hi]
  cases w
  unfold World.setCell at e ⊢
  simp only at e ⊢
  rw [e]

theorem run_append_bytes (w : World) (ty : TypeId) (v : Value) (l t : List UInt8) (hown : w.ownsRow 0 5 1 v l.length (l.map u8)) (sv : Value) (hsl : Sl w sv t)
    (h63 : l.length + t.length ≤ maxLen) (hbytes : l.length + t.length ≤ 140737488355328) :
    ∃ v' w', (Builtin.append_ #[25, 25] ty #[v, sv]).run Tryd.prog w = .ok v' w' ∧ w'.ownsRow 0 5 1 v' (l ++ t).length ((l ++ t).map u8) ∧ w.grownBy w' v.ownBlock ∧ (v'.ownBlock = v.ownBlock ∨ v'.ownBlock = some w.heap.size) := by
  obtain ⟨i0, hi, hz0, hz1, hz2⟩ := info_parts info8
  obtain ⟨ao, cap, rfl, h1, h2, h3, h4⟩ := hsl
  cases ao with
  | none =>
    obtain rfl := h3 rfl
    have h0 : t = [] := List.eq_nil_of_length_eq_zero (by omega)
    subst h0
    exact ⟨v, w, run_append_owned_none (P := Tryd.prog) (w := w) 0 25 ty 5 i0 1 Tryd.underlying25 hi v _ _ hown, by simpa using hown, World.grownBy.refl _ _, .inl rfl⟩
  | some ad =>
    obtain ⟨hsp, hcell⟩ := h4 ad rfl
    obtain ⟨v', w', hr, a1, a2, _, a4⟩ := run_append_own_at (P := Tryd.prog) w 0 25 ty 5 i0 (.int .u8 0) 1 1 Tryd.underlying25 hi hz0 hz1 hz2 rfl (by decide) v _ _ hown ad t.length cap (t.map u8) (by simp) (fun j u hu => by
      have hj : j < t.length := by have := (List.getElem?_eq_some_iff.1 hu).1; simpa using this
      have e : u = u8 (t.getD j 0) := by simp [hj] at hu; simp [List.getD, hj, hu]
      rw [e]
      exact hcell j hj) (fun u hu => by obtain ⟨_, _, rfl⟩ := List.mem_map.1 hu; rfl) h63 (by omega) (Nat.zero_le _)
    exact ⟨v', w', hr, by rw [List.length_append, List.map_append]; exact a1, a2, a4⟩

/-- append([]byte(nil), p...) as a step of a region that draws: a copy in new memory -/
theorem step_copy_nil (w : World) {ops : Array Oper} {o : Oper} {a : Act} {K : Act → World → Prop} {Q : Exit → Act → World → Prop} {E : Prop} (hgd : o.guard = none) (sl x : Operand)
    (ho : o.op = .call { callee := .builtin .append, args := #[sl, x], argTypes := #[25, 25] }) (hs : a.eval sl = .slice none 0 0)
    (t : List UInt8) (sv : Value) (hx : a.eval x = sv) (hsl : Sl w sv t) (hb : t.length ≤ 140737488355328)
    (m : Nat) (hm : m = t.length)
    (hK : ∀ ao cap w', Hid (w'.ownsRow 0 5 1 (.slice ao m cap) m (t.map u8)) → Hid (Upd (fun _ => False) w w') → Hid (∀ k, Mem.own (.slice ao m cap) k → w.heap.size ≤ k) → K (a.put o.dst (.slice ao m cap)) w') : if Region.wanted o (yielded ops a.tmps) = true then Oper.wp Tryd.prog o a w K Q else E := by
  have hw : Region.wanted o (yielded ops a.tmps) = true := by simp [Region.wanted, hgd]
  rw [if_pos hw]
  obtain ⟨v', w', hrun, r1, r2, r3⟩ := run_append_bytes w o.type (.slice none 0 0) [] t (own_nil w) sv hsl (by unfold maxLen; simp; omega) (by simp; omega)
  unfold Oper.wp
  simp [execOp, ho, resolve, invoke, builtin, hs, hx, hrun, Result.andThen]
  rw [List.nil_append] at r1
  obtain ⟨ao, cap, rfl⟩ := IntsW.slice_form r1
  subst hm
  exact hK ao cap w' r1 (Upd.grown r2 (fun k hk => by simp [Value.ownBlock] at hk)) (fun k hk => by
    rcases r3 with h | h
    · unfold Mem.own at hk; rw [h] at hk; simp [Value.ownBlock] at hk
    · unfold Mem.own at hk; rw [h] at hk; cases hk; exact Nat.le_refl _)
end Go.Proofs.YtiglaeipbcmlnaaDoor.BookM

/-
  docketbook.Book[byte]: Keep.
-/
namespace Go.Proofs.YtiglaeipbcmlnaaDoor.BookK
open Go.RowKit Sha Mem RowW CopyW BookW OffR BookM
set_option linter.unusedVariables false
set_option linter.unusedSimpArgs false

def KeepAt (w : World) (b : Nat) (T : TypeId) (cs : List Value) (o : Nat) (K : List Ent) (R O : Nat → Prop) (v : Value) (xs : List UInt8) (e : Ending) (w' : World) : Prop :=
  e = .returned (.tuple #[]) ∧ ∃ u K' cs', K' <:+ K ++ [⟨v, u, xs⟩] ∧ K' ≠ [] ∧ K'.length ≤ 4000 ∧ BkW w' b T cs' o K' (fun k => R k ∨ w.heap.size ≤ k) (fun k => O k ∨ own v k) ∧ But o cs cs' ∧ Upd (fun k => k = b ∨ R k) w w'

/-- behind the copy -/
def Push (w w3 : World) (b : Nat) (T : TypeId) (cs : List Value) (o : Nat) (K : List Ent) (R O : Nat → Prop) (lv wv : Value) (hv : Int) (v : Value) (xs : List UInt8) (lv2 : Value) (w7 : World) : Prop :=
  ∃ u wv2, Upd (fun k => k = b ∨ Mem.own wv k) w3 w7 ∧ Row w7 b T ((cs.set o lv2).set (o + 1) wv2) ∧ OffR w7 25 wv2 (K.map Ent.u ++ [u]) ∧ (∀ k, Mem.own wv2 k → Mem.own wv k ∨ w3.heap.size ≤ k) ∧
    w7.ownsRow 0 5 1 u xs.length (xs.map u8) ∧ (∀ k, Mem.own u k → w3.heap.size ≤ k)

def LKeep (w : World) (b : Nat) (T : TypeId) (cs : List Value) (o : Nat) (K : List Ent) (R O : Nat → Prop) (v : Value) (g : Nat) (wr : World) : Prop :=
  ∃ K' cs' lv wv hv, g = K'.length ∧ K' <:+ K ∧ K' ≠ [] ∧ Bk wr b T cs' o K' (fun k => R k ∨ w.heap.size ≤ k) (fun k => O k ∨ Mem.own v k) lv wv hv ∧ But o cs cs' ∧ Upd (fun k => k = b ∨ R k) w wr

set_option maxHeartbeats 4000000 in
set_option maxRecDepth 100000 in
theorem keep_any (b o : Nat) (T : TypeId) (cs : List Value) (K : List Ent) (R O : Nat → Prop) (ao : Option Addr) (n cap : Nat) (xs : List UInt8) (w : World) (hk : BkW w b T cs o K R O) (hT : T ≠ 25) (hT8 : T ≠ 5)
    (hv : w.ownsRow 0 5 1 (.slice ao n cap) n (xs.map u8)) (hnew : ∀ k, own (.slice ao n cap) k → ¬ O k) (hlen : K.length ≤ 4000) (hn : n ≤ 140737488355328) :
    Calls Tryd.prog 43 #[.pointer (some ⟨b, o, none⟩), .slice ao n cap] w (KeepAt w b T cs o K R O (.slice ao n cap) xs) := by
  obtain ⟨lv, wv, hv0, hbk⟩ := hk
  have hnx : n = xs.length := by have := hv.1; simpa using this.symm
  have hrow := hbk.row
  have c0 : w.cell? ⟨b, o, none⟩ = some lv := by rw [hrow.cell]; exact hbk.c0
  have f0 := hrow.frozen o
  have HBk := Lib.hid hbk
  have Hv := Lib.hid hv
  have Hnew := Lib.hid hnew
  have Hlen := Lib.hid hlen
  have Hnx := Lib.hid hnx
  have HT := Lib.hid hT
  have HT8 := Lib.hid hT8
  have Hn := Lib.hid hn
  clear hbk hv hnew hlen hnx hT hT8 hrow hn
  go_enter Tryd.func43, Tryd.ntmps43
  go_upto_region 1 with ((with_reducible refine wpList_append_off (o := ⟨some 11, _, _, _, _, _⟩) _ ?_ (.tmp 8) (.tmp 10) ?_ lv (.slice ao n cap) (K.map Ent.v) w.heap.size 1 ?_ (HBk.out.lrow.upd ((Upd.refl (fun _ => False) _).alloc _) (fun _ _ => id)) ?_ (heap_alloc_new _ _) (fun h => by have := (HBk.out.lrow.lt h).1; omega) rfl (by rw [List.length_map]; have := Hlen.out; omega) (K.length + 1) (by rw [List.length_map]) ?_); rfl; rfl; rfl; rfl; intro lo2 lc2 w2 HL2 HU2 HN2; have HR2 : Hid (Row w2 b T cs) := (HBk.out.row.alloc _).upd HU2.out (fun h => off_far HBk.out.row HT.out HBk.out.lrow h rfl); have c2 : w2.cell? ⟨b, o, none⟩ = some lv := (by rw [HR2.out.cell]; exact HBk.out.c0); have f2 := HR2.out.frozen o)
  obtain ⟨w3, hw3⟩ : ∃ x, x = w2.setCell ⟨b, o, none⟩ (.slice lo2 (K.length + 1) lc2) := ⟨_, rfl⟩
  rw [← hw3]
  have HR3 : Hid (Row w3 b T (cs.set o (.slice lo2 (K.length + 1) lc2))) := by show Row _ _ _ _; rw [hw3]; exact HR2.out.set o _
  have HU3 : Hid (Upd (fun k => k = b ∨ own lv k) w w3) := by
    show Upd _ _ _
    rw [hw3]
    exact (((Upd.refl (fun k => k = b ∨ own lv k) w).alloc _).trans (HU2.out.mono (fun k _ e => .inl (.inr e)))).setCell (.inl (.inl rfl)) _
  have HL3 : Hid (OffR w3 25 (.slice lo2 (K.length + 1) lc2) (K.map Ent.v ++ [.slice ao n cap])) := by
    show OffR _ _ _ _
    rw [hw3]
    exact HL2.out.upd (Upd.setCell (S := fun k => k = b) (Upd.refl _ w2) (.inl rfl) _) (fun k hk e => off_far HR2.out HT.out HL2.out hk e)
  have HN3 : Hid (∀ k, own (.slice lo2 (K.length + 1) lc2) k → own lv k ∨ w.heap.size ≤ k) := fun k hk => (HN2.out k hk).imp id (fun h => by simp at h; omega)
  have HW3 : Hid (OffR w3 25 wv (K.map Ent.u)) := HBk.out.wrow.upd HU3.out (fun k hk e => e.elim (fun e => off_far HBk.out.row HT.out HBk.out.wrow hk e) (fun e => HBk.out.lw k e hk))
  have HV3 : Hid (Sl w3 (.slice ao n cap) xs) := (Sl.of_own (show w.ownsRow 0 5 1 (.slice ao n cap) xs.length (xs.map Mem.u8) by rw [← Hnx.out]; exact Hv.out)).upd HU3.out (fun k hk e => e.elim (fun e => own_far HBk.out.row HT8.out Hv.out hk e) (fun e => own_off Hv.out HBk.out.lrow hk e))
  have c3 : w3.cell? ⟨b, o + 1, none⟩ = some wv := by rw [HR3.out.cell, List.getElem?_set_ne (by omega)]; exact HBk.out.c1
  have f3 := HR3.out.frozen (o + 1)
  clear hw3 HL2 HU2 HN2 HR2 c2 f2 c0 f0
  go_cut [2] (fun s2 wx => Push w w3 b T cs o K R O lv wv hv0 (.slice ao n cap) xs (.slice lo2 (K.length + 1) lc2) wx)
  case first =>
    go_region_law (first
      | ((refine step_copy_nil _ (by rfl) _ _ (by rfl) (by rfl) xs (.slice ao n cap) (by rfl) (HV3.out.upd ((Upd.refl (fun _ => False) _).drew) (fun _ _ => id)) (by rw [← Hnx.out]; exact Hn.out) n Hnx.out ?_); intro uo uc w4 HO4 HU4 HN4; have HU5 : Hid (Upd (fun _ => False) w3 w4) := ((Upd.refl _ w3).drew).trans (HU4.out.mono (fun _ _ h => h.elim)); have c4 : w4.cell? ⟨b, o + 1, none⟩ = some wv := HU5.out.cell c3 id; have c5 : (w4.alloc (.cells #[.slice uo n uc] 25)).cell? ⟨b, o + 1, none⟩ = some wv := ((Upd.refl (fun _ => False) w4).alloc _).cell c4 id)
      | ((refine step_append_off _ (by rfl) _ _ (by rfl) wv (.slice uo n uc) (K.map Ent.u) w4.heap.size 1 (by rfl) (HW3.out.upd (HU5.out.alloc _) (fun _ _ => id)) (by rfl) (heap_alloc_new _ _) (fun h => by have := (HW3.out.lt h).1; have := HU5.out.size; omega) rfl (by rw [List.length_map]; have := Hlen.out; omega) (K.length + 1) (by rw [List.length_map]) ?_); intro lo6 lc6 w6 HL6 HU6 HN6; have HR6 : Hid (Row w6 b T (cs.set o (.slice lo2 (K.length + 1) lc2))) := ((HR3.out.upd HU5.out id).alloc _).upd HU6.out (fun h => off_far HR3.out HT.out HW3.out h rfl); have c6 : w6.cell? ⟨b, o + 1, none⟩ = some wv := (HR6.out.cell _).trans ((HR3.out.cell _).symm.trans c3); have f6 := HR6.out.frozen (o + 1)))
    all_goals go_wp2_with fail
    all_goals go_meet
    all_goals
      have hu6 : Upd (fun k => k = b ∨ own wv k) w3 w6 := ((HU5.out.mono (fun _ _ h => h.elim)).alloc _).trans (HU6.out.mono (fun k _ e => .inl (.inr e)))
      refine ⟨.slice uo n uc, .slice lo6 (K.length + 1) lc6, hu6.setCell (.inl (.inl rfl)) _, HR6.out.set (o + 1) _, HL6.out.upd (Upd.setCell (S := fun k => k = b) (Upd.refl _ w6) (.inl rfl) _) (fun k hk e => off_far HR6.out HT.out HL6.out hk e), fun k hk => (HN6.out k hk).imp id (fun h => by have := HU5.out.size; simp at h; omega), ?_, fun k hk => HN4.out k hk⟩
      rw [← Hnx.out]
      have h4 : w6.ownsRow 0 5 1 (.slice uo n uc) n (xs.map Mem.u8) := IntsW.own_upd (HO4.out.alloc _) HU6.out (fun k hk e => by have := (HW3.out.lt e).1; have := HN4.out k hk; simp at this; omega)
      exact IntsW.own_upd h4 (Upd.setCell (S := fun k => k = b) (Upd.refl _ w6) (.inl rfl) _) (fun k hk e => own_far HR6.out HT8.out h4 hk e)
  case rest =>
    obtain ⟨u, wv2, hu7, row7, r7, n7, u7, nu⟩ := hcut
    have hp := Bk.push HBk.out HT.out HT8.out (show w.ownsRow 0 5 1 (.slice ao n cap) xs.length (xs.map Mem.u8) by rw [← Hnx.out]; exact Hv.out) Hnew.out (by rw [← Hnx.out]; exact Hn.out) HU3.out HR3.out HL3.out HN3.out hu7 row7 r7 n7 u7 nu
    obtain ⟨E, hE⟩ : ∃ x : Ent, x = ⟨.slice ao n cap, u, xs⟩ := ⟨_, rfl⟩
    rw [← hE] at hp
    obtain ⟨cs7, hcs7⟩ : ∃ x, x = (cs.set o (.slice lo2 (K.length + 1) lc2)).set (o + 1) wv2 := ⟨_, rfl⟩
    have hbut : But o cs cs7 := by rw [hcs7]; exact ((But.refl o cs).set o (by omega) _).set (o + 1) (by omega) _
    rw [← hcs7] at hp
    obtain ⟨hb7, hU7⟩ := hp
    have HL0 : Hid (∀ x w', Bk w' b T (cs7.set (o + 2) (.int .i64 x)) o (K ++ [E]) (fun k => R k ∨ w.heap.size ≤ k) (fun k => O k ∨ own (.slice ao n cap) k) (.slice lo2 (K.length + 1) lc2) wv2 x → Upd (fun k => k = b ∨ R k) w w' → LKeep w b T cs o (K ++ [E]) R O (.slice ao n cap) (K.length + 1) w') := fun x w' h1 h2 =>
      ⟨K ++ [E], _, _, _, _, by simp, List.suffix_refl _, by simp, h1, hbut.set (o + 2) (by omega) _, h2⟩
    have c72 : wc.cell? ⟨b, o + 2, none⟩ = some (.int .i64 hv0) := by rw [hb7.row.cell]; exact hb7.c2
    have f72 := hb7.row.frozen (o + 2)
    have HTn : Hid (∀ x, Bk (wc.setCell ⟨b, o + 2, none⟩ (.int .i64 x)) b T (cs7.set (o + 2) (.int .i64 x)) o (K ++ [E]) (fun k => R k ∨ w.heap.size ≤ k) (fun k => O k ∨ own (.slice ao n cap) k) (.slice lo2 (K.length + 1) lc2) wv2 x) := fun x => by
      have l2 : o + 2 < cs7.length := (List.getElem?_eq_some_iff.1 hb7.c2).1
      exact hb7.turn (Upd.setCell (S := fun k => k = b) (Upd.refl _ wc) (.inl rfl) _) HT.out HT8.out (hb7.row.set _ _) (by rw [List.getElem?_set_ne (by omega)]; exact hb7.c0) (by rw [List.getElem?_set_ne (by omega)]; exact hb7.c1) (by rw [List.getElem?_set_self l2]) (by rw [List.getElem?_set_ne (by omega)]; exact hb7.c3) (List.suffix_refl _) hb7.lrow hb7.wrow (fun _ h => h) (fun _ h => h)
    have HU7 := Lib.hid hU7
    have HE := Lib.hid hE
    clear hu7 row7 r7 n7 u7 nu hE hcs7 hbut hb7 hU7 c3 f3 HR3 HU3 HL3 HN3 HW3 HV3
    go_wp2
    go_loopg [] (K.length + 1) (fun g wr => LKeep w b T cs o (K ++ [E]) R O (.slice ao n cap) g wr)
    case atStart => exact HL0.out _ _ (HTn.out _) (HU7.out.setCell (.inl (.inl rfl)) _)
    case round =>
      obtain ⟨K', cs', lv', wv', hv', hg, hsuf, hne, hb, hbut, hu⟩ := hrel
      clear HTn HU7 HL0
      obtain ⟨la, lc, hlv, hl1, hl2⟩ := hb.lrow.form
      rw [List.length_map, ← hg] at hlv hl1
      subst hlv
      have c0 : wr.cell? ⟨b, o, none⟩ = some (.slice la gk lc) := by rw [hb.row.cell]; exact hb.c0
      have c2 : wr.cell? ⟨b, o + 2, none⟩ = some (.int .i64 hv') := by rw [hb.row.cell]; exact hb.c2
      have h0g : 0 < gk := by rw [hg]; exact List.length_pos_iff.2 hne
      have HB := Lib.hid hb
      have HG := Lib.hid hg
      have HSf := Lib.hid hsuf
      have HNe := Lib.hid hne
      have HBut := Lib.hid hbut
      have HU := Lib.hid hu
      have HC1 := Lib.hid hl1
      have HC2 := Lib.hid hl2
      clear hg hsuf hne hb hbut hu hl1 hl2
      obtain ⟨go, hgo⟩ : ∃ x : Bool, x = (decide ((1 : Int) < (gk : Int)) && (decide ((1000000 : Int) < hv') || decide ((4000 : Int) < (gk : Int)))) := ⟨_, rfl⟩
      go_upto_region 3 with fail
      go_cut [56] (fun s wx => s = .bool go ∧ wx = wr)
      case first =>
        by_cases h1 : (1 : Int) < (gk : Int)
        · have d1 : decide ((1 : Int) < (gk : Int)) = true := decide_eq_true h1
          by_cases h2 : (1000000 : Int) < hv'
          · have d2 : decide ((1000000 : Int) < hv') = true := decide_eq_true h2
            rw [d1, d2] at hgo
            go_wp2_with fail
            go_meet
            exact ⟨by rw [hgo]; rfl, rfl⟩
          · have d2 : decide ((1000000 : Int) < hv') = false := decide_eq_false h2
            rw [d1, d2] at hgo
            by_cases h3 : (4000 : Int) < (gk : Int)
            · have d3 : decide ((4000 : Int) < (gk : Int)) = true := decide_eq_true h3
              rw [d3] at hgo
              go_wp2_with fail
              go_meet
              exact ⟨by rw [hgo]; rfl, rfl⟩
            · have d3 : decide ((4000 : Int) < (gk : Int)) = false := decide_eq_false h3
              rw [d3] at hgo
              go_wp2_with fail
              go_meet
              exact ⟨by rw [hgo]; rfl, rfl⟩
        · have d1 : decide ((1 : Int) < (gk : Int)) = false := decide_eq_false h1
          rw [d1] at hgo
          go_wp2_with fail
          go_meet
          exact ⟨by rw [hgo]; rfl, rfl⟩
      case rest =>
        obtain ⟨rfl, rfl⟩ := hcut
        cases go with
        | false =>
          have HP : Hid (KeepAt w b T cs o K R O (.slice ao n cap) xs (.returned (.tuple #[])) wc) := by
            have h4 : gk ≤ 4000 := by
              simp at hgo
              by_cases h1 : 1 < gk
              · have := hgo (by omega); omega
              · omega
            exact ⟨rfl, u, K', cs', by rw [← HE.out]; exact HSf.out, HNe.out, by rw [← HG.out]; exact h4, ⟨_, _, _, HB.out⟩, HBut.out, HU.out⟩
          go_wp2
          go_end0
          exact HP.out
        | true =>
          have h1 : 2 ≤ gk := by simp at hgo; omega
          clear hgo
          obtain ⟨e1, K2, hK⟩ : ∃ e1 K2, K' = e1 :: K2 := by
            cases K' with
            | nil => exact absurd rfl HNe.out
            | cons a l => exact ⟨a, l, rfl⟩
          subst hK
          have hgl : gk = K2.length + 1 := by rw [HG.out]; rfl
          obtain ⟨hE1⟩ : Nonempty (EntOk wc (fun k => R k ∨ w.heap.size ≤ k) (fun k => O k ∨ own (.slice ao n cap) k) e1) := ⟨HB.out.ents e1 (List.mem_cons_self ..)⟩
          obtain ⟨v1, u1, x1⟩ := e1
          have hE1o := hE1.own
          have hE1w := hE1.was
          dsimp only at hE1o hE1w
          obtain ⟨va, vc, rfl⟩ := IntsW.slice_form hE1o
          obtain ⟨ua, uc1, rfl⟩ := IntsW.slice_form hE1w
          obtain ⟨xn, hxn⟩ : ∃ x, x = x1.length := ⟨_, rfl⟩
          have hxl := hE1.len
          dsimp only at hxl
          clear hE1o hE1w
          rw [← hxn] at hE1 HB HSf HNe HG hxl
          obtain ⟨lg, lo, lc', hlv, _, _, hcl, htl⟩ := HB.out.lrow.some (by simp)
          obtain ⟨wg, wo, wcp, hwv, hw1, hw2, hcw, htw⟩ := HB.out.wrow.some (by simp)
          have el : (List.map Ent.v (⟨.slice va xn vc, .slice ua xn uc1, x1⟩ :: K2)).length = gk := by rw [hgl]; simp
          have eu : (List.map Ent.u (⟨.slice va xn vc, .slice ua xn uc1, x1⟩ :: K2)).length = gk := by rw [hgl]; simp
          rw [el] at hlv htl hcl
          rw [eu] at hwv htw hw1 hcw
          injection hlv with e1 e2 e3
          subst e1 e3
          subst hwv
          clear e2
          have ce := hcl 0 (by omega)
          have cu := hcw 0 (by omega)
          have htl := htl h1
          have htw := htw h1
          simp only [List.map_cons, List.getD_cons_zero, Nat.add_zero, List.tail_cons] at ce cu htl htw
          have c1 : wc.cell? ⟨b, o + 1, none⟩ = some (.slice (some ⟨wg, wo, none⟩) gk wcp) := by rw [HB.out.row.cell]; exact HB.out.c1
          have c3 : wc.cell? ⟨b, o + 3, none⟩ = some (.bool false) := by rw [HB.out.row.cell]; exact HB.out.c3
          have f3 := HB.out.row.frozen (o + 3)
          have HSm := Lib.hid (fun w' => same_any va ua xn vc uc1 x1 w')
          have Hxn := Lib.hid hxn
          have Hxl := Lib.hid hxl
          have HE1 := Lib.hid hE1
          have HTl := Lib.hid htl
          have HTw := Lib.hid htw
          have HW1 := Lib.hid hw1
          have HW2 := Lib.hid hw2
          have HGl := Lib.hid hgl
          have h1I : (1 : Int) ≤ (gk : Int) := by omega
          have h0I : (0 : Int) < (gk : Int) := by omega
          have hlcI : (gk : Int) ≤ (lc : Int) := by have := HC1.out; omega
          have hwcI : (gk : Int) ≤ (wcp : Int) := by omega
          clear hxn hxl hE1 htl htw hw1 hw2 hgl hcl hcw el eu
          go_upto_region 4 with fail
          have HS : Hid (∀ w', Upd (fun _ => False) wc w' → (w'.cell? ⟨b, o, none⟩ = some (.slice (some ⟨lg, lo, none⟩) gk lc) ∧ w'.cell? ⟨b, o + 1, none⟩ = some (.slice (some ⟨wg, wo, none⟩) gk wcp) ∧ w'.cell? ⟨b, o + 3, none⟩ = some (.bool false) ∧ w'.frozen? ⟨b, o + 3, none⟩ = false ∧
              w'.cell? ⟨lg, lo, none⟩ = some (.slice va xn vc) ∧ w'.cell? ⟨wg, wo, none⟩ = some (.slice ua xn uc1)) ∧ Upd (fun _ => False) wc w') := fun w' hq =>
            ⟨⟨hq.cell c0 id, hq.cell c1 id, hq.cell c3 id, (HB.out.row.upd hq id).frozen _, hq.cell ce id, hq.cell cu id⟩, hq⟩
          have HSA : Hid (Sl wc (.slice va xn vc) x1) := Sl.of_own (show wc.ownsRow 0 5 1 (.slice va xn vc) x1.length (x1.map Mem.u8) from HE1.out.own)
          have HSB : Hid (Sl wc (.slice ua xn uc1) x1) := Sl.of_own (show wc.ownsRow 0 5 1 (.slice ua xn uc1) x1.length (x1.map Mem.u8) from HE1.out.was)
          go_cut [56] (fun s2 wx => Upd (fun _ => False) wc wx)
          case first =>
            go_region_held3 (fun w' => (w'.cell? ⟨b, o, none⟩ = some (.slice (some ⟨lg, lo, none⟩) gk lc) ∧ w'.cell? ⟨b, o + 1, none⟩ = some (.slice (some ⟨wg, wo, none⟩) gk wcp) ∧ w'.cell? ⟨b, o + 3, none⟩ = some (.bool false) ∧ w'.frozen? ⟨b, o + 3, none⟩ = false ∧
                w'.cell? ⟨lg, lo, none⟩ = some (.slice va xn vc) ∧ w'.cell? ⟨wg, wo, none⟩ = some (.slice ua xn uc1)) ∧ Upd (fun _ => False) wc w')
              (first
                | exact HS.out _ ((Upd.refl _ wc).drew)
                | (obtain ⟨_, hq⟩ := ‹_ ∧ Upd (fun _ => False) wc _›; exact HS.out _ (hq.trans (hu9.mono (fun _ _ h => h.elim))))
                | (obtain ⟨⟨_, _, h3, _⟩, hq⟩ := ‹_ ∧ Upd (fun _ => False) wc _›; rw [setCell_self h3]; exact HS.out _ hq))
              (first
                | (go_at_call 64; obtain ⟨_, hq⟩ := ‹_ ∧ Upd (fun _ => False) wc _›; refine (HSm.out _ (HSA.out.upd hq (fun _ _ => id)) (HSB.out.upd hq (fun _ _ => id)) Hxl.out).mono ?_; rintro e w9 ⟨rfl, hu9⟩))
            all_goals go_wp2_with fail
            all_goals go_meet
            all_goals exact (‹_ ∧ Upd (fun _ => False) wc _›).2
          case rest =>
            have HB2 : Hid (Bk wc b T cs' o (⟨.slice va xn vc, .slice ua xn uc1, x1⟩ :: K2) (fun k => R k ∨ w.heap.size ≤ k) (fun k => O k ∨ own (.slice ao n cap) k) (.slice (some ⟨lg, lo, none⟩) gk lc) (.slice (some ⟨wg, wo, none⟩) gk wcp) hv') :=
              HB.out.upd hcut id (fun _ _ _ => id) (fun _ _ _ => id)
            have HU2 : Hid (Upd (fun k => k = b ∨ R k) w wc) := HU.out.trans (hcut.mono (fun _ _ e => e.elim))
            have ce2 : wc.cell? ⟨lg, lo, none⟩ = some (.slice va xn vc) := hcut.cell ce id
            have d0 : wc.cell? ⟨b, o, none⟩ = some (.slice (some ⟨lg, lo, none⟩) gk lc) := hcut.cell c0 id
            have d1 : wc.cell? ⟨b, o + 1, none⟩ = some (.slice (some ⟨wg, wo, none⟩) gk wcp) := hcut.cell c1 id
            have d2 : wc.cell? ⟨b, o + 2, none⟩ = some (.int .i64 hv') := hcut.cell c2 id
            have g0 := HB2.out.row.frozen o
            have g1 := HB2.out.row.frozen (o + 1)
            have g2 := HB2.out.row.frozen (o + 2)
            have HTl2 : Hid (OffR wc 25 (.slice (some ⟨lg, lo + 1, none⟩) (gk - 1) (lc - 1)) (K2.map Ent.v)) := HTl.out.upd hcut (fun _ _ => id)
            have HTw2 : Hid (OffR wc 25 (.slice (some ⟨wg, wo + 1, none⟩) (gk - 1) (wcp - 1)) (K2.map Ent.u)) := HTw.out.upd hcut (fun _ _ => id)
            clear hcut HS HSm HSA HSB HB HU HTl HTw c0 c1 c2 c3 f3 ce cu HE1
            go_upto_region 5 with fail
            go_still_tail 16, (by kernel_rfl)
            change wpList _ _ _ _ _ wc.drew
            go_wp2
            obtain ⟨hvn, hhv⟩ : ∃ x, x = wrap64 (wrap64 (hv' - (vc : Int)) - 1) := ⟨_, rfl⟩
            rw [← hhv]
            clear hhv
            have hu5 : Upd (fun k => k = b) wc (((wc.setCell ⟨b, o + 2, none⟩ (.int .i64 hvn)).setCell ⟨b, o, none⟩ (.slice (some ⟨lg, lo + 1, none⟩) (gk - 1) (lc - 1))).setCell ⟨b, o + 1, none⟩ (.slice (some ⟨wg, wo + 1, none⟩) (gk - 1) (wcp - 1))).drew :=
              (((Upd.setCell (S := fun k => k = b) (Upd.refl _ wc) (.inl rfl) _).setCell (.inl rfl) _).setCell (.inl rfl) _).drew
            have l0 : o < cs'.length := (List.getElem?_eq_some_iff.1 HB2.out.c0).1
            have l1 : o + 1 < cs'.length := (List.getElem?_eq_some_iff.1 HB2.out.c1).1
            have l2 : o + 2 < cs'.length := (List.getElem?_eq_some_iff.1 HB2.out.c2).1
            have hb5 := HB2.out.turn hu5 HT.out HT8.out ((((HB2.out.row.set (o + 2) (.int .i64 hvn)).set o (.slice (some ⟨lg, lo + 1, none⟩) (gk - 1) (lc - 1))).set (o + 1) (.slice (some ⟨wg, wo + 1, none⟩) (gk - 1) (wcp - 1))).drew)
              (hv' := hvn) (by rw [List.getElem?_set_ne (by omega), List.getElem?_set_self (by rw [List.length_set]; exact l0)])
              (by rw [List.getElem?_set_self (by rw [List.length_set, List.length_set]; exact l1)])
              (by rw [List.getElem?_set_ne (by omega), List.getElem?_set_ne (by omega), List.getElem?_set_self l2])
              (by rw [List.getElem?_set_ne (by omega), List.getElem?_set_ne (by omega), List.getElem?_set_ne (by omega)]; exact HB2.out.c3)
              (List.suffix_cons _ K2) HTl2.out HTw2.out (fun k hk => hk) (fun k hk => hk)
            have HP5 : Hid (LKeep w b T cs o (K ++ [E]) R O (.slice ao n cap) (gk - 1) (((wc.setCell ⟨b, o + 2, none⟩ (.int .i64 hvn)).setCell ⟨b, o, none⟩ (.slice (some ⟨lg, lo + 1, none⟩) (gk - 1) (lc - 1))).setCell ⟨b, o + 1, none⟩ (.slice (some ⟨wg, wo + 1, none⟩) (gk - 1) (wcp - 1))).drew) :=
              ⟨K2, _, _, _, _, by have := HGl.out; omega, (List.suffix_cons _ K2).trans HSf.out, fun h => by have := HGl.out; rw [h] at this; simp at this; omega, hb5, (((HBut.out.set (o + 2) (by omega) _).set o (by omega) _).set (o + 1) (by omega) _),
                HU2.out.trans (hu5.mono (fun k _ e => .inl (.inl e)))⟩
            go_roundg (gk - 1)
            case rel => exact HP5.out
            case measure => omega
end Go.Proofs.YtiglaeipbcmlnaaDoor.BookK

/-
  docketbook.Book[byte]: Stays.
-/
namespace Go.Proofs.YtiglaeipbcmlnaaDoor.BookS
open Go.RowKit Sha Mem RowW CopyW BookW OffR BookM BookK
set_option linter.unusedVariables false
set_option linter.unusedSimpArgs false

set_option maxHeartbeats 4000000 in
set_option maxRecDepth 100000 in
theorem stays_any (b o : Nat) (T : TypeId) (cs : List Value) (K : List Ent) (R O : Nat → Prop) (lv wv : Value) (hv : Int) (w : World) (hk : Bk w b T cs o K R O lv wv hv) (hlen : K.length ≤ 4000) :
    Calls Tryd.prog 74 #[.pointer (some ⟨b, o, none⟩)] w fun e w' => e = .returned (.bool true) ∧ Upd (fun _ => False) w w' := by
  obtain ⟨la, lc, hlv, hl1, hl2⟩ := hk.lrow.form
  obtain ⟨N, hN⟩ : ∃ x, x = K.length := ⟨_, rfl⟩
  rw [List.length_map, ← hN] at hlv hl1
  subst hlv
  have HBk := Lib.hid hk
  have HN := Lib.hid hN
  have HLen := Lib.hid hlen
  have HL1 := Lib.hid hl1
  have HL2 := Lib.hid hl2
  clear hk hN hlen hl1 hl2
  go_enter Tryd.func74, Tryd.ntmps74
  go_wp2
  go_loopw [3] (fun i wr => ∃ k : Nat, k ≤ N ∧ i = .int .i64 k ∧ Upd (fun _ => False) w wr) (fun i _ => N - (intOf i).toNat)
  case atStart => exact ⟨0, Nat.zero_le _, rfl, Upd.refl _ _⟩
  case round =>
    obtain ⟨k, hkN, rfl, hu⟩ := hrel
    have HB : Hid (Bk wr b T cs o K R O (.slice la N lc) wv hv) := HBk.out.upd hu id (fun _ _ _ => id) (fun _ _ _ => id)
    have HU := Lib.hid hu
    clear hu
    have c0 : wr.cell? ⟨b, o, none⟩ = some (.slice la N lc) := by rw [HB.out.row.cell]; exact HB.out.c0
    have c3 : wr.cell? ⟨b, o + 3, none⟩ = some (.bool false) := by rw [HB.out.row.cell]; exact HB.out.c3
    have f3 := HB.out.row.frozen (o + 3)
    by_cases hlt : k < N
    · have hltI : (k : Int) < (N : Int) := by omega
      have hk4 : k ≤ 4000 := by have := HLen.out; have := HN.out; omega
      have hkl : k < K.length := by rw [← HN.out]; exact hlt
      obtain ⟨lg, lo, lc', hlv, _, _, hcl, _⟩ := HB.out.lrow.some (by rw [List.length_map]; omega)
      obtain ⟨wg, wo, wcp, hwv, hw1, hw2, hcw, _⟩ := HB.out.wrow.some (by rw [List.length_map]; omega)
      rw [List.length_map, ← HN.out] at hlv hwv hw1
      injection hlv with e1 e2 e3
      subst e1 e3
      subst hwv
      clear e2
      have ce := hcl k (by rw [List.length_map]; exact hkl)
      have cu := hcw k (by rw [List.length_map]; exact hkl)
      obtain ⟨e1, he1⟩ : ∃ x, x = K[k] := ⟨_, rfl⟩
      have hE1 := HB.out.ents e1 (by rw [he1]; exact List.getElem_mem hkl)
      have ev : (K.map Ent.v).getD k undef = e1.v := by rw [List.getD_eq_getElem?_getD, List.getElem?_map, List.getElem?_eq_getElem hkl, he1]; rfl
      have eu : (K.map Ent.u).getD k undef = e1.u := by rw [List.getD_eq_getElem?_getD, List.getElem?_map, List.getElem?_eq_getElem hkl, he1]; rfl
      rw [ev] at ce
      rw [eu] at cu
      clear ev eu he1 hcl hcw
      obtain ⟨v1, u1, x1⟩ := e1
      have hE1o := hE1.own
      have hE1w := hE1.was
      dsimp only at hE1o hE1w ce cu
      obtain ⟨va, vc, rfl⟩ := IntsW.slice_form hE1o
      obtain ⟨ua, uc1, rfl⟩ := IntsW.slice_form hE1w
      obtain ⟨xn, hxn⟩ : ∃ x, x = x1.length := ⟨_, rfl⟩
      have hxl := hE1.len
      dsimp only at hxl
      have HSA : Hid (Sl wr (.slice va xn vc) x1) := by show Sl _ _ _; rw [hxn]; exact Sl.of_own hE1o
      have HSB : Hid (Sl wr (.slice ua xn uc1) x1) := by show Sl _ _ _; rw [hxn]; exact Sl.of_own hE1w
      rw [← hxn] at ce cu hxl
      clear hE1o hE1w hE1 hxn
      have HSm := Lib.hid (fun w' => same_any va ua xn vc uc1 x1 w')
      have Hxl := Lib.hid hxl
      have c1 : wr.cell? ⟨b, o + 1, none⟩ = some (.slice (some ⟨wg, wo, none⟩) N wcp) := by rw [HB.out.row.cell]; exact HB.out.c1
      clear hxl hw1 hw2
      have HS : Hid (∀ w', Upd (fun _ => False) wr w' → (w'.cell? ⟨b, o, none⟩ = some (.slice (some ⟨lg, lo, none⟩) N lc) ∧ w'.cell? ⟨b, o + 1, none⟩ = some (.slice (some ⟨wg, wo, none⟩) N wcp) ∧ w'.cell? ⟨b, o + 3, none⟩ = some (.bool false) ∧ w'.frozen? ⟨b, o + 3, none⟩ = false ∧
          w'.cell? ⟨lg, lo + k, none⟩ = some (.slice va xn vc) ∧ w'.cell? ⟨wg, wo + k, none⟩ = some (.slice ua xn uc1)) ∧ Upd (fun _ => False) wr w') := fun w' hq =>
        ⟨⟨hq.cell c0 id, hq.cell c1 id, hq.cell c3 id, (HB.out.row.upd hq id).frozen _, hq.cell ce id, hq.cell cu id⟩, hq⟩
      go_upto_region 4 with fail
      go_region_held3 (fun w' => (w'.cell? ⟨b, o, none⟩ = some (.slice (some ⟨lg, lo, none⟩) N lc) ∧ w'.cell? ⟨b, o + 1, none⟩ = some (.slice (some ⟨wg, wo, none⟩) N wcp) ∧ w'.cell? ⟨b, o + 3, none⟩ = some (.bool false) ∧ w'.frozen? ⟨b, o + 3, none⟩ = false ∧
          w'.cell? ⟨lg, lo + k, none⟩ = some (.slice va xn vc) ∧ w'.cell? ⟨wg, wo + k, none⟩ = some (.slice ua xn uc1)) ∧ Upd (fun _ => False) wr w')
        (first
          | exact HS.out _ ((Upd.refl _ wr).drew)
          | (obtain ⟨_, hq⟩ := ‹_ ∧ Upd (fun _ => False) wr _›; exact HS.out _ (hq.trans (hu9.mono (fun _ _ h => h.elim))))
          | (obtain ⟨⟨_, _, h3, _⟩, hq⟩ := ‹_ ∧ Upd (fun _ => False) wr _›; rw [setCell_self h3]; exact HS.out _ hq))
        (first
          | (go_at_call 64; obtain ⟨_, hq⟩ := ‹_ ∧ Upd (fun _ => False) wr _›; refine (HSm.out _ (HSA.out.upd hq (fun _ _ => id)) (HSB.out.upd hq (fun _ _ => id)) Hxl.out).mono ?_; rintro e w9 ⟨rfl, hu9⟩))
      have HU2 : Hid (Upd (fun _ => False) w (w9.setCell ⟨b, o + 3, none⟩ (.bool false))) := HU.out.trans ((‹_ ∧ Upd (fun _ => False) wr _›).2.mono (fun _ _ e => e.elim))
      clear HS HSm HSA HSB HB HU c0 c1 c3 f3 ce cu
      go_wp2
      go_roundw
      case rel => exact ⟨k + 1, by omega, by go_num, HU2.out⟩
      case measure => simp [intOf]; omega
    · have hltI : decide ((k : Int) < (N : Int)) = false := by simp; omega
      go_wp2
      go_ret
      exact ⟨rfl, HU.out⟩
end Go.Proofs.YtiglaeipbcmlnaaDoor.BookS

/-
  docketbook.Book[byte]: Apart with the marks Bytes.
-/
namespace Go.Proofs.YtiglaeipbcmlnaaDoor.BookA
open Go.RowKit Sha Mem RowW CopyW BookW OffR BookM BookK BookS
set_option linter.unusedVariables false
set_option linter.unusedSimpArgs false

def mark (i j : Nat) : Int := ((i : Int) + 1) / 2 ^ (8 * (j % 3)) % 256
theorem bytes_any (i j : Nat) (hi : i ≤ 4000) (hj : (j : Int) ≤ 9223372036854775807) (w : World) :
    Calls Tryd.prog 45 #[.int .i64 i, .int .i64 j] w fun e w' => e = .returned (.int .u8 (mark i j)) ∧ w = w' := by
  go_enter Tryd.func45, Tryd.ntmps45
  go_wp2
  go_ret
  exact ⟨rfl, rfl⟩

def vcap : Value → Nat
  | .slice _ _ c => c
  | _ => 0
/-- the marks that stand: of the lists before the i-th all, of the i-th j -/
structure Mks (w1 : World) (K : List Ent) (i j : Nat) (wr : World) : Prop where
  upd : Upd (fun k => ∃ e ∈ K, Mem.own e.v k) w1 wr
  full : ∀ e ∈ K, ∀ k, Mem.own e.v k → ∃ cur, wr.heap[k]? = some (.cells cur 5 (0, 0)) ∧ cur.size = vcap e.v
  done : ∀ m e, K[m]? = some e → ∀ k, Mem.own e.v k → ∀ c, c < vcap e.v → (m < i ∨ m = i ∧ c < j) → wr.cell? ⟨k, c, none⟩ = some (.int .u8 (mark m c))

theorem Mks.start {w1 : World} {R O : Nat → Prop} {b : Nat} {T : TypeId} {cs : List Value} {o : Nat} {K : List Ent} {lv wv : Value} {hv : Int} (h : Bk w1 b T cs o K R O lv wv hv) : Mks w1 K 0 0 w1 := by
  refine ⟨Upd.refl _ _, fun e he k hk => ?_, fun m e hm k hk c hc h => by omega⟩
  rcases (h.ents e he).own.2 with ⟨h1, _⟩ | ⟨g, cap, cur, h1, _, hg, _, _, hs, _⟩
  · rw [h1] at hk; simp [Mem.own, Value.ownBlock] at hk
  · rw [h1] at hk ⊢
    simp [Mem.own, Value.ownBlock] at hk
    subst hk
    exact ⟨cur, hg, by rw [hs, Nat.mul_one]; rfl⟩
theorem Mks.drewN {w1 wr : World} {K : List Ent} {i j : Nat} (h : Mks w1 K i j wr) (n : Nat) : Mks w1 K i j (wr.drewN n) := ⟨RowW.Upd.drewN h.upd n, h.full, h.done⟩
theorem Mks.next {w1 wr : World} {K : List Ent} {i j : Nat} (h : Mks w1 K i j wr) (hj : ∀ e, K[i]? = some e → ∀ k, Mem.own e.v k → vcap e.v ≤ j) : Mks w1 K (i + 1) 0 wr :=
  ⟨h.upd, h.full, fun m e hm k hk c hc hlt => h.done m e hm k hk c hc (by
    rcases hlt with h1 | h1
    · by_cases he : m = i
      · subst he; exact .inr ⟨rfl, by have := hj e hm k hk; omega⟩
      · exact .inl (by omega)
    · omega)⟩
theorem Mks.put {w1 wr : World} {K : List Ent} {i j k : Nat} {e : Ent} (h : Mks w1 K i j wr) (ha : K.Pairwise (fun e f => ∀ k, Mem.own e.v k → ¬ Mem.own f.v k)) (he : K[i]? = some e) (hk : Mem.own e.v k) (hj : j < vcap e.v) : Mks w1 K i (j + 1) (wr.setCell ⟨k, j, none⟩ (.int .u8 (mark i j))) := by
  have hmem : e ∈ K := List.mem_of_getElem? he
  refine ⟨h.upd.setCell (.inl ⟨e, hmem, hk⟩) _, fun f hf g hg => ?_, fun m f hm g hg c hc hlt => ?_⟩
  · obtain ⟨cur, h1, h2⟩ := h.full f hf g hg
    by_cases hgk : g = k
    · subst hgk
      exact ⟨_, heap_setCell_same wr g j cur _ _ h1, by simpa using h2⟩
    · exact ⟨cur, (heap_setCell_other wr ⟨k, j, none⟩ g _ hgk).trans h1, h2⟩
  · by_cases hgk : g = k
    · subst hgk
      have hmi : m = i := by
        rcases Nat.lt_trichotomy m i with h1 | h1 | h1
        · exact absurd hk (List.pairwise_iff_getElem.1 ha m i (List.getElem?_eq_some_iff.1 hm).1 (List.getElem?_eq_some_iff.1 he).1 h1 g (by rw [(List.getElem?_eq_some_iff.1 hm).2]; exact hg) |> fun h => by rw [(List.getElem?_eq_some_iff.1 he).2] at h; exact h)
        · exact h1
        · exact absurd hg (List.pairwise_iff_getElem.1 ha i m (List.getElem?_eq_some_iff.1 he).1 (List.getElem?_eq_some_iff.1 hm).1 h1 g (by rw [(List.getElem?_eq_some_iff.1 he).2]; exact hk) |> fun h => by rw [(List.getElem?_eq_some_iff.1 hm).2] at h; exact h)
      subst hmi
      obtain ⟨cur, h1, h2⟩ := h.full f (List.mem_of_getElem? hm) g hg
      rw [cell_of_row _ _ _ _ _ _ (heap_setCell_same wr g j cur _ _ h1), Array.getElem?_setIfInBounds]
      by_cases hcj : j = c
      · subst hcj
        rw [if_pos rfl, if_pos (by omega)]
      · rw [if_neg hcj, ← cell_of_row _ _ _ _ _ _ h1]
        exact h.done m f hm g hg c hc (.inr ⟨rfl, by omega⟩)
    · have := h.done m f hm g hg c hc (by
        rcases hlt with h1 | h1
        · exact .inl h1
        · exact .inr ⟨h1.1, by
            have : f = e := by rw [h1.1, he] at hm; exact (Option.some.inj hm).symm
            subst this
            exact absurd (by simp only [Mem.own] at hk hg; rw [hk] at hg; exact (Option.some.inj hg).symm) hgk⟩)
      rw [World.cell?_setCell_far _ _ _ _ (fun e => hgk e.symm)]
      exact this

theorem Mks.lists {w1 wr : World} {R O : Nat → Prop} {b : Nat} {T : TypeId} {cs : List Value} {o : Nat} {K : List Ent} {lv wv : Value} {hv : Int} {i j : Nat} (h : Bk w1 b T cs o K R O lv wv hv) (hT8 : T ≠ 5) (hm : Mks w1 K i j wr) : Row wr b T cs ∧ OffR wr 25 lv (K.map Ent.v) :=
  ⟨h.row.upd hm.upd (fun ⟨e, he, hk⟩ => own_far h.row hT8 (h.ents e he).own hk rfl), h.lrow.upd hm.upd (fun k hk ⟨e, he, hk'⟩ => own_off (h.ents e he).own h.lrow hk' hk)⟩
theorem Mks.upd' {w1 wr w' : World} {K : List Ent} {i j : Nat} (h : Mks w1 K i j wr) (hu : Upd (fun _ => False) wr w') : Mks w1 K i j w' :=
  ⟨h.upd.trans (hu.mono fun _ _ e => e.elim), fun e he k hk => by
    obtain ⟨cur, h1, h2⟩ := h.full e he k hk
    exact ⟨cur, (hu.block k (lt_of_block h1) id).trans h1, h2⟩, fun m e hm k hk c hc hlt => hu.cell (h.done m e hm k hk c hc hlt) id⟩
theorem own_form {w : World} {v : Value} {n : Nat} {xs : List Value} (h : w.ownsRow 0 5 1 v n xs) : ∃ va vc, v = .slice va n vc ∧ n ≤ vc ∧ vc ≤ maxLen ∧ (va = none → n = 0 ∧ vc = 0) ∧ ∀ a, va = some a → ∃ g, a = ⟨g, 0, none⟩ := by
  rcases h.2 with ⟨rfl, rfl⟩ | ⟨g, cap, cur, rfl, _, _, h1, h2, _⟩
  · exact ⟨none, 0, rfl, Nat.le_refl _, Nat.zero_le _, (fun _ => ⟨rfl, rfl⟩), (fun a ha => by cases ha)⟩
  · exact ⟨_, cap, rfl, h1, h2, (fun h => by cases h), (fun a ha => by cases ha; exact ⟨g, rfl⟩)⟩

set_option maxHeartbeats 4000000 in
set_option maxRecDepth 100000 in
theorem apart_any (b o : Nat) (T : TypeId) (cs : List Value) (K : List Ent) (R O : Nat → Prop) (w : World) (hk : BkW w b T cs o K R O) (hT : T ≠ 25) (hT8 : T ≠ 5) (hlen : K.length ≤ 4000) :
    Calls Tryd.prog 44 #[.pointer (some ⟨b, o, none⟩), .func (.func 45) #[] #[]] w fun e w' =>
      e = .returned (.bool true) ∧ Row w' b T (((cs.set o (.slice none 0 0)).set (o + 1) (.slice none 0 0)).set (o + 2) (.int .i64 0)) ∧ Upd (fun k => k = b ∨ O k) w w' := by
  obtain ⟨lv, wv, hv, hk⟩ := hk
  have HSt := Lib.hid (stays_any b o T cs K R O lv wv hv w hk hlen)
  have HBk := Lib.hid hk
  have HT := Lib.hid hT
  have HT8 := Lib.hid hT8
  have HLen := Lib.hid hlen
  clear hk hT hT8 hlen
  go_enter Tryd.func44, Tryd.ntmps44
  go_wp2_with (go_at_call 74; refine HSt.out.mono ?_; rintro e w1 ⟨rfl, hu1⟩)
  have HB1 : Hid (Bk w1 b T cs o K R O lv wv hv) := HBk.out.upd hu1 id (fun _ _ _ => id) (fun _ _ _ => id)
  have HU1 := Lib.hid hu1
  clear hu1 HSt HBk
  obtain ⟨la, lc, hlv, hl1, hl2⟩ := HB1.out.lrow.form
  obtain ⟨N, hN⟩ : ∃ x, x = K.length := ⟨_, rfl⟩
  rw [List.length_map, ← hN] at hlv hl1
  subst hlv
  have HN := Lib.hid hN
  have HL1 := Lib.hid hl1
  have HL2 := Lib.hid hl2
  have HM0 := Lib.hid (Mks.start HB1.out)
  clear hN hl1 hl2
  go_loopg [5, 6, 7] N (fun g i l j wr => ∃ k : Nat, k + g = N ∧ i = .int .i64 k ∧ Mks w1 K k 0 wr)
  case atStart => exact ⟨0, by omega, rfl, HM0.out⟩
  case round =>
    obtain ⟨k, hkg, rfl, hm⟩ := hrel
    obtain ⟨g0, rfl⟩ : ∃ x : Nat, x = gk := ⟨_, rfl⟩
    obtain ⟨w2, rfl⟩ : ∃ x : World, x = wr := ⟨_, rfl⟩
    clear HM0
    obtain ⟨hr2, hl2⟩ := Mks.lists HB1.out HT8.out hm
    have c0 : w2.cell? ⟨b, o, none⟩ = some (.slice la N lc) := by rw [hr2.cell]; exact HB1.out.c0
    have HM := Lib.hid hm
    have HR2 := Lib.hid hr2
    have HLr := Lib.hid hl2
    clear hm hr2 hl2
    by_cases hlt : k < N
    · have hltI : (k : Int) < (N : Int) := by omega
      have hk4 : k ≤ 4000 := by have := HLen.out; have := HN.out; omega
      have hkl : k < K.length := by rw [← HN.out]; exact hlt
      obtain ⟨lg, lo, lc', hlv, _, _, hcl, _⟩ := HLr.out.some (by rw [List.length_map]; omega)
      rw [List.length_map, ← HN.out] at hlv
      injection hlv with e1 e2 e3
      subst e1 e3
      clear e2
      have ce := hcl k (by rw [List.length_map]; exact hkl)
      obtain ⟨e1, he1⟩ : ∃ x, x = K[k] := ⟨_, rfl⟩
      have hget : K[k]? = some e1 := by rw [he1, List.getElem?_eq_getElem hkl]
      have hE1 := HB1.out.ents e1 (List.mem_of_getElem? hget)
      have ev : (K.map Ent.v).getD k undef = e1.v := by rw [List.getD_eq_getElem?_getD, List.getElem?_map, hget]; rfl
      rw [ev] at ce
      obtain ⟨va, vc, hv1, hv2, hv3, hv4, hv5⟩ := own_form hE1.own
      obtain ⟨xn, hxn⟩ : ∃ x, x = e1.xs.length := ⟨_, rfl⟩
      rw [hv1, ← hxn] at ce
      rw [← hxn] at hv1 hv2 hv4
      have Hget := Lib.hid hget
      have Hv1 := Lib.hid hv1
      have Hv2 := Lib.hid hv2
      have Hv3 := Lib.hid hv3
      have Hv4 := Lib.hid hv4
      have Hv5 := Lib.hid hv5
      clear hcl he1 hget hE1 ev hv1 hv2 hv3 hv4 hv5 hxn hlt
      go_upto_region 6 with fail
      go_cut [6] (fun l wx => l = .slice va vc vc ∧ Mks w1 K k 0 wx)
      case first =>
        cases va with
        | none =>
          obtain ⟨rfl, rfl⟩ := Hv4.out rfl
          go_quiet (fail)
          go_wp2_with fail
          go_meet
          exact ⟨rfl, HM.out.drewN _⟩
        | some ad =>
          obtain ⟨vg, rfl⟩ := Hv5.out _ rfl
          have hv2I : (xn : Int) ≤ (vc : Int) := by have := Hv2.out; omega
          go_quiet (fail)
          go_wp2_with fail
          go_meet
          exact ⟨rfl, HM.out.drewN _⟩
      case rest =>
        obtain ⟨rfl, hm⟩ := hcut
        have HM2 := Lib.hid hm
        clear hm HM ce c0 HR2 HLr
        go_wp2
        go_loopg [7] vc (fun g j wx => ∃ c : Nat, c + g = vc ∧ j = .int .i64 c ∧ Mks w1 K k c wx)
        case atStart => exact ⟨0, by omega, rfl, HM2.out⟩
        case round =>
          obtain ⟨c, hcg, rfl, hm⟩ := hrel
          clear HM2
          have HM := Lib.hid hm
          have Hcg := Lib.hid hcg
          clear hm hcg
          by_cases hcv : c < vc
          · have hcI : (c : Int) < (vc : Int) := by omega
            obtain ⟨⟨vg, _, _⟩, rfl⟩ : ∃ ad, va = some ad := by
              cases va with
              | some ad => exact ⟨ad, rfl⟩
              | none => have := (Hv4.out rfl).2; omega
            obtain ⟨_, he⟩ := Hv5.out _ rfl
            cases he
            have hown : own e1.v vg := by rw [Hv1.out]; rfl
            have hvc : vcap e1.v = vc := by rw [Hv1.out]; rfl
            obtain ⟨cur, hb, hs⟩ := HM.out.full e1 (List.mem_of_getElem? Hget.out) vg hown
            have cc : wr.cell? ⟨vg, c, none⟩ = some cur[c] := by rw [cell_of_row _ _ _ _ _ _ hb, Array.getElem?_eq_getElem (by omega)]
            have fc : wr.frozen? ⟨vg, c, none⟩ = false := by simp [World.frozen?, hb]
            have HM3 : Hid (Mks w1 K k (c + 1) (wr.setCell ⟨vg, c, none⟩ (.int .u8 (mark k c)))) := HM.out.put HB1.out.apart Hget.out hown (by rw [hvc]; exact hcv)
            have HBy : Hid (∀ w', Calls Tryd.prog 45 #[.int .i64 k, .int .i64 c] w' fun e w'' => e = .returned (.int .u8 (mark k c)) ∧ w' = w'') := fun w' => bytes_any k c hk4 (by have := Hv3.out; unfold maxLen at this; omega) w'
            have Hvc := Lib.hid hvc
            have hcw : ((c : Int) + 1) ≤ (vc : Int) := by omega
            obtain ⟨x, hx⟩ : ∃ x, x = cur[c]'(by omega) := ⟨_, rfl⟩
            rw [← hx] at cc
            clear hown hvc hb hs hx HM
            go_wp2_with (go_at_call 45; refine (HBy.out _).mono ?_; rintro e w9 ⟨rfl, rfl⟩)
            go_roundg (gk - 1)
            case rel => exact ⟨c + 1, by have := Hcg.out; omega, by have := Hv3.out; unfold maxLen at this; unfold wrap64; simp; omega, HM3.out⟩
            case measure => have := Hcg.out; omega
          · have hcI : decide ((c : Int) < (vc : Int)) = false := by simp; omega
            have HM3 : Hid (Mks w1 K (k + 1) 0 wr) := HM.out.next (fun e he k' hk' => by
              have : e = e1 := by rw [Hget.out] at he; exact (Option.some.inj he).symm
              rw [this, Hv1.out]
              show vc ≤ c
              omega)
            clear HM
            go_wp2
            go_roundg (g0 - 1)
            case rel => exact ⟨k + 1, by omega, by go_num, HM3.out⟩
            case measure => omega
    · have hltI : decide ((k : Int) < (N : Int)) = false := by simp; omega
      obtain rfl : k = N := by omega
      obtain ⟨wA, hwA⟩ : ∃ x : World, x = w2 := ⟨_, rfl⟩
      rw [← hwA] at HM HR2 HLr c0 ⊢
      clear hwA hkg
      go_wp2
      go_loopg [8, 9, 10] k (fun g i l j wx => ∃ m : Nat, m + g = k ∧ i = .int .i64 m ∧ Upd (fun _ => False) wA wx)
      case atStart => exact ⟨0, by omega, rfl, Upd.refl _ _⟩
      case round =>
        obtain ⟨m, hmg, rfl, hu⟩ := hrel
        obtain ⟨g1, rfl⟩ : ∃ x : Nat, x = gk := ⟨_, rfl⟩
        obtain ⟨w3, rfl⟩ : ∃ x : World, x = wr := ⟨_, rfl⟩
        have d0 : w3.cell? ⟨b, o, none⟩ = some (.slice la k lc) := hu.cell c0 id
        have HL3 : Hid (OffR w3 25 (.slice la k lc) (K.map Ent.v)) := HLr.out.upd hu (fun _ _ => id)
        have HM3 : Hid (Mks w1 K k 0 w3) := HM.out.upd' hu
        have HU3 := Lib.hid hu
        clear hu
        by_cases hlt : m < k
        · have hltI2 : (m : Int) < (k : Int) := by omega
          have hk4 : m ≤ 4000 := by have := HLen.out; have := HN.out; omega
          have hkl : m < K.length := by rw [← HN.out]; exact hlt
          obtain ⟨lg, lo, lc', hlv, _, _, hcl, _⟩ := HL3.out.some (by rw [List.length_map]; omega)
          rw [List.length_map, ← HN.out] at hlv
          injection hlv with e1 e2 e3
          subst e1 e3
          clear e2
          have ce := hcl m (by rw [List.length_map]; exact hkl)
          obtain ⟨e1, he1⟩ : ∃ x, x = K[m] := ⟨_, rfl⟩
          have hget : K[m]? = some e1 := by rw [he1, List.getElem?_eq_getElem hkl]
          have hE1 := HB1.out.ents e1 (List.mem_of_getElem? hget)
          have ev : (K.map Ent.v).getD m undef = e1.v := by rw [List.getD_eq_getElem?_getD, List.getElem?_map, hget]; rfl
          rw [ev] at ce
          obtain ⟨va, vc, hv1, hv2, hv3, hv4, hv5⟩ := own_form hE1.own
          obtain ⟨xn, hxn⟩ : ∃ x, x = e1.xs.length := ⟨_, rfl⟩
          rw [hv1, ← hxn] at ce
          rw [← hxn] at hv1 hv2 hv4
          have Hget := Lib.hid hget
          have Hv1 := Lib.hid hv1
          have Hv2 := Lib.hid hv2
          have Hv3 := Lib.hid hv3
          have Hv4 := Lib.hid hv4
          have Hv5 := Lib.hid hv5
          clear hcl he1 hget hE1 ev hv1 hv2 hv3 hv4 hv5 hxn hlt
          go_upto_region 14 with fail
          go_cut [9] (fun l wx => l = .slice va vc vc ∧ Upd (fun _ => False) wA wx)
          case first =>
            cases va with
            | none =>
              obtain ⟨rfl, rfl⟩ := Hv4.out rfl
              go_quiet (fail)
              go_wp2_with fail
              go_meet
              exact ⟨rfl, RowW.Upd.drewN HU3.out _⟩
            | some ad =>
              obtain ⟨vg, rfl⟩ := Hv5.out _ rfl
              have hv2I : (xn : Int) ≤ (vc : Int) := by have := Hv2.out; omega
              go_quiet (fail)
              go_wp2_with fail
              go_meet
              exact ⟨rfl, RowW.Upd.drewN HU3.out _⟩
          case rest =>
            obtain ⟨rfl, hu4⟩ := hcut
            have HU4 := Lib.hid hu4
            clear hu4 HU3 ce d0 HL3 HM3
            go_wp2
            go_loopg [10] vc (fun g j wx => ∃ c : Nat, c + g = vc ∧ j = .int .i64 c ∧ Upd (fun _ => False) wA wx)
            case atStart => exact ⟨0, by omega, rfl, HU4.out⟩
            case round =>
              obtain ⟨c, hcg, rfl, hu⟩ := hrel
              clear HU4
              have HM5 : Hid (Mks w1 K k 0 wr) := HM.out.upd' hu
              have HU5 := Lib.hid hu
              have Hcg := Lib.hid hcg
              clear hu hcg
              by_cases hcv : c < vc
              · have hcI : (c : Int) < (vc : Int) := by omega
                obtain ⟨⟨vg, _, _⟩, rfl⟩ : ∃ ad, va = some ad := by
                  cases va with
                  | some ad => exact ⟨ad, rfl⟩
                  | none => have := (Hv4.out rfl).2; omega
                obtain ⟨_, he⟩ := Hv5.out _ rfl
                cases he
                have hown : own e1.v vg := by rw [Hv1.out]; rfl
                have hvc : vcap e1.v = vc := by rw [Hv1.out]; rfl
                have cc := HM5.out.done m e1 Hget.out vg hown c (by rw [hvc]; exact hcv) (.inl (by omega))
                have HBy : Hid (∀ w', Calls Tryd.prog 45 #[.int .i64 m, .int .i64 c] w' fun e w'' => e = .returned (.int .u8 (mark m c)) ∧ w'' = w') := fun w' => (bytes_any m c hk4 (by have := Hv3.out; unfold maxLen at this; omega) w').mono (fun e w'' h => ⟨h.1, h.2.symm⟩)
                have hcw : ((c : Int) + 1) ≤ (vc : Int) := by omega
                obtain ⟨x, hx⟩ : ∃ x, x = mark m c := ⟨_, rfl⟩
                rw [← hx] at cc HBy
                clear hown hvc hx HM5
                go_wp2
                go_quiet ((go_at_call 45; exact Calls.quiet_of_same (HBy.out _)))
                go_wp2
                go_roundg (gk - 1)
                case rel => exact ⟨c + 1, by have := Hcg.out; omega, by have := Hv3.out; unfold maxLen at this; unfold wrap64; simp; omega, RowW.Upd.drewN HU5.out _⟩
                case measure => have := Hcg.out; omega
              · have hcI : decide ((c : Int) < (vc : Int)) = false := by simp; omega
                go_wp2
                go_roundg (g1 - 1)
                case rel => exact ⟨m + 1, by omega, by go_num, HU5.out⟩
                case measure => omega
        · have hltI2 : decide ((m : Int) < (k : Int)) = false := by simp; omega
          have HR3 : Hid (Row w3 b T cs) := HR2.out.upd HU3.out id
          have HU6 : Hid (Upd (fun k => k = b ∨ O k) w w3) := HU1.out.mono (fun _ _ e => e.elim) |>.trans (HM3.out.upd.mono (fun k _ ⟨e, he, hk⟩ => .inl (.inr ((HB1.out.ents e he).inO k hk))))
          have f0 := HR3.out.frozen o
          have f1 := HR3.out.frozen (o + 1)
          have f2 := HR3.out.frozen (o + 2)
          have d1 : w3.cell? ⟨b, o + 1, none⟩ = some wv := by rw [HR3.out.cell]; exact HB1.out.c1
          have d2 : w3.cell? ⟨b, o + 2, none⟩ = some (.int .i64 hv) := by rw [HR3.out.cell]; exact HB1.out.c2
          go_wp2
          go_ret
          exact ⟨rfl, ((HR3.out.set o _).set (o + 1) _).set (o + 2) _, ((HU6.out.setCell (.inl (.inl rfl)) _).setCell (.inl (.inl rfl)) _).setCell (.inl (.inl rfl)) _⟩
end Go.Proofs.YtiglaeipbcmlnaaDoor.BookA
