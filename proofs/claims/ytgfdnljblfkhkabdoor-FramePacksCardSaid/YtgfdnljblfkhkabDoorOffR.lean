/-
  A row of one-cell values at an offset of its block (what 'l = l[1:]' leaves), and append of one value to it.
-/
import Derived.Test.YtgfdnljblfkhkabDoorRowW
import Derived.ArgAppend
import Derived.Maps.AppendAt
import Derived.Laws.OwnMore
namespace Go.Proofs.YtgfdnljblfkhkabDoor.OffR
open Go.RowKit Mem RowW
set_option linter.unusedVariables false

/-- v is a slice of values of the type e that reads as vs -/
def OffR (w : World) (e : TypeId) (v : Value) (vs : List Value) : Prop :=
  (v = .slice none 0 0 ∧ vs = []) ∨
  ∃ g off cap cur, v = .slice (some ⟨g, off, none⟩) vs.length cap ∧ w.heap[g]? = some (.cells cur e (0, 0)) ∧ vs.length ≤ cap ∧ cap ≤ maxLen ∧ off + cap ≤ cur.size ∧
    ∀ i, i < vs.length → cur[off + i]? = vs[i]?

theorem OffR.nil (w : World) (e : TypeId) : OffR w e (.slice none 0 0) [] := .inl ⟨rfl, rfl⟩
theorem OffR.lt {w : World} {e : TypeId} {v : Value} {vs : List Value} (h : OffR w e v vs) {k : Nat} (hk : own v k) : k < w.heap.size ∧ ∃ cur, w.heap[k]? = some (.cells cur e (0, 0)) := by
  rcases h with ⟨rfl, _⟩ | ⟨g, off, cap, cur, rfl, hg, _⟩
  · simp [own, Value.ownBlock] at hk
  · simp [own, Value.ownBlock] at hk
    subst hk
    exact ⟨lt_of_block hg, cur, hg⟩
theorem OffR.upd {S : Nat → Prop} {w w' : World} {e : TypeId} {v : Value} {vs : List Value} (h : OffR w e v vs) (hu : Upd S w w') (hd : ∀ k, own v k → ¬ S k) : OffR w' e v vs := by
  rcases h with h | ⟨g, off, cap, cur, rfl, hg, r⟩
  · exact .inl h
  · exact .inr ⟨g, off, cap, cur, rfl, (hu.block g (lt_of_block hg) (hd g rfl)).trans hg, r⟩
theorem OffR.form {w : World} {e : TypeId} {v : Value} {vs : List Value} (h : OffR w e v vs) : ∃ ao cap, v = .slice ao vs.length cap ∧ vs.length ≤ cap ∧ cap ≤ maxLen := by
  rcases h with ⟨rfl, rfl⟩ | ⟨g, off, cap, cur, rfl, _, h1, h2, _⟩
  · exact ⟨none, 0, rfl, Nat.le_refl _, Nat.zero_le _⟩
  · exact ⟨_, _, rfl, h1, h2⟩
theorem OffR.some {w : World} {e : TypeId} {v : Value} {vs : List Value} (h : OffR w e v vs) (hn : 0 < vs.length) : ∃ g off cap, v = .slice (some ⟨g, off, none⟩) vs.length cap ∧ vs.length ≤ cap ∧ cap ≤ maxLen ∧
    (∀ i, i < vs.length → w.cell? ⟨g, off + i, none⟩ = some (vs.getD i undef)) ∧ (2 ≤ vs.length → OffR w e (.slice (some ⟨g, off + 1, none⟩) (vs.length - 1) (cap - 1)) vs.tail) := by
  rcases h with ⟨rfl, rfl⟩ | ⟨g, off, cap, cur, rfl, hg, h1, h2, h3, h4⟩
  · simp at hn
  · refine ⟨g, off, cap, rfl, h1, h2, fun i hi => ?_, fun h => .inr ⟨g, off + 1, cap - 1, cur, by rw [List.length_tail], hg, by rw [List.length_tail]; omega, by omega, by omega, fun i hi => ?_⟩⟩
    · rw [cell_of_row _ _ _ _ _ _ hg, h4 i hi, List.getD_eq_getElem?_getD, List.getElem?_eq_getElem hi]
      rfl
    · rw [List.length_tail] at hi
      rw [List.getElem?_tail, ← h4 (i + 1) (by omega)]
      congr 1
      omega

theorem infoL : (Tryd.prog.info? 22).map (fun i => (i.zero, i.size, i.bytes)) = some (some (.slice none 0 0), 1, 24) := by kernel_rfl

theorem OffR.of_own {w : World} {base n : Nat} {e : TypeId} {v : Value} {vs : List Value} (h : w.ownsRow base e 1 v n vs) : OffR w e v vs ∧ ∀ k, own v k → base ≤ k := by
  refine ⟨?_, fun k hk => (h.lt k hk).1⟩
  have hl : vs.length = n := by have := h.1; omega
  rcases h.2 with ⟨rfl, rfl⟩ | ⟨g, cap, cur, rfl, _, hg, h1, h2, h3, h4⟩
  · exact .inl ⟨rfl, List.eq_nil_of_length_eq_zero hl⟩
  · refine .inr ⟨g, 0, cap, cur, by rw [hl], hg, by omega, h2, by omega, fun i hi => ?_⟩
    rw [← h4, List.getElem?_take_of_lt (by omega), Nat.zero_add, Array.getElem?_toList]

/-- append of one value -/
theorem run_append_off (w : World) (ty : TypeId) (v u : Value) (vs : List Value) (g c : Nat) (h : OffR w 22 v vs) (hg : w.heap[g]? = some (.cells #[u] 22 (0, 0))) (hgv : ¬ own v g) (hu : u.oneCell' = true) (hn : vs.length ≤ 4100) :
    ∃ v' w', (Builtin.append_ #[28, 28] ty #[v, .slice (some ⟨g, 0, none⟩) 1 c]).run Tryd.prog w = .ok v' w' ∧ OffR w' 22 v' (vs ++ [u]) ∧ Upd (own v) w w' ∧ ∀ k, own v' k → own v k ∨ w.heap.size ≤ k := by
  obtain ⟨i0, hi, hz0, hz1, hz2⟩ := info_parts infoL
  have hnews : ∀ j x, [u][j]? = some x → w.cell? ((⟨g, 0, none⟩ : Addr).add j) = some x := fun j x hx => by
    have hj : j = 0 := by have := (List.getElem?_eq_some_iff.1 hx).1; simpa using this
    subst hj
    rw [add_none, cell_of_row _ _ _ _ _ _ hg]
    simpa using hx
  have h1 : ∀ x ∈ [u], x.oneCell' = true := fun x hx => by rw [List.mem_singleton.1 hx]; exact hu
  have hM : vs.length + 1 ≤ maxLen := by unfold maxLen; omega
  rcases h with ⟨rfl, rfl⟩ | ⟨b, off, cap, cur, rfl, hb, hc1, hc2, hc3, hc4⟩
  · obtain ⟨v', w', hr, r1, r2, _⟩ := run_append_own (P := Tryd.prog) w w.heap.size 28 ty 22 i0 (.slice none 0 0) 1 24 Tryd.underlying28 hi hz0 hz1 hz2 rfl (by decide) (.slice none 0 0) 0 [] (World.ownsRow_nil w _ _ 1) ⟨g, 0, none⟩ 1 c [u] rfl hnews h1 (by unfold maxLen; omega) (by omega) (Nat.le_refl _)
    have := OffR.of_own r1
    exact ⟨v', w', hr, this.1, Upd.grown r2 (fun k hk => by simp [Value.ownBlock] at hk), fun k hk => .inr (this.2 k hk)⟩
  · by_cases hroom : vs.length + 1 ≤ cap
    · have hr := run_append_room_cells (P := Tryd.prog) w 28 ty 22 i0 Tryd.underlying28 hi b off vs.length cap ⟨g, 0, none⟩ 1 c [u] (by rw [hz1]; rfl) hnews h1 hroom
        (fun j hj => by
          obtain rfl : j = 0 := by simpa using hj
          rw [hz1, cell_of_row _ _ _ _ _ _ hb, Array.getElem?_eq_getElem (by omega)]; rfl)
        (fun j hj => by simp [World.frozen?, hb])
      rw [hz1, Nat.mul_one] at hr
      refine ⟨_, _, hr, ?_, Upd.setCell (S := own (.slice (some ⟨b, off, none⟩) vs.length cap)) (p := ⟨b, off + vs.length, none⟩) (Upd.refl _ w) (.inl rfl) u, fun k hk => .inl hk⟩
      refine .inr ⟨b, off, cap, cur.setIfInBounds (off + vs.length) u, by simp, heap_setCell_same w b _ _ _ u hb, by simp; omega, hc2, by simpa using hc3, fun i hi => ?_⟩
      rw [List.length_append, List.length_singleton] at hi
      rw [Array.getElem?_setIfInBounds]
      by_cases he : i = vs.length
      · subst he
        rw [if_pos rfl, if_pos (by omega)]
        simp
      · rw [if_neg (by omega), hc4 i (by omega), List.getElem?_append_left (by omega)]
    · obtain ⟨v', w', hr, r1, r2⟩ := run_append_arg_grows (P := Tryd.prog) w 28 ty 22 i0 (.slice none 0 0) 1 24 Tryd.underlying28 hi hz0 hz1 hz2 rfl (by decide) ⟨b, off, none⟩ vs.length cap vs (by omega)
        (fun j x hx => by
          have hj := (List.getElem?_eq_some_iff.1 hx).1
          rw [add_none, cell_of_row _ _ _ _ _ _ hb, hc4 j hj, hx]) ⟨g, 0, none⟩ 1 c [u] rfl hnews (by omega) hM (by omega)
      have := OffR.of_own r1
      exact ⟨v', w', hr, this.1, (Upd.grown r2 (S := fun _ => False) (fun k hk => by cases hk)).mono (fun _ _ h => h.elim), fun k hk => .inr (this.2 k hk)⟩

theorem wp_append_off (w : World) {o : Oper} {a : Act} {K : Act → World → Prop} {Q : Exit → Act → World → Prop} (sl x : Operand)
    (ho : o.op = .call { callee := .builtin .append, args := #[sl, x], argTypes := #[28, 28] })
    (v u : Value) (vs : List Value) (g c : Nat) (hs : a.eval sl = v) (h : OffR w 22 v vs) (hx : a.eval x = .slice (some ⟨g, 0, none⟩) 1 c) (hg : w.heap[g]? = some (.cells #[u] 22 (0, 0))) (hgv : ¬ own v g) (hu : u.oneCell' = true) (hn : vs.length ≤ 4100)
    (m : Nat) (hm : m = vs.length + 1)
    (hK : ∀ ao cap w', Hid (OffR w' 22 (.slice ao m cap) (vs ++ [u])) → Hid (Upd (own v) w w') → Hid (∀ k, own (.slice ao m cap) k → own v k ∨ w.heap.size ≤ k) → K (a.put o.dst (.slice ao m cap)) w') : Oper.wp Tryd.prog o a w K Q := by
  obtain ⟨v', w', hrun, r1, r2, r3⟩ := run_append_off w o.type v u vs g c h hg hgv hu hn
  unfold Oper.wp
  simp [execOp, ho, resolve, invoke, builtin, hs, hx, hrun, Result.andThen]
  obtain ⟨ao, cap, rfl, _⟩ := r1.form
  have e : (vs ++ [u]).length = m := by rw [hm]; simp
  rw [e] at r1 r3 ⊢
  exact hK ao cap w' r1 r2 r3
theorem wpList_append_off (w : World) {ops : Array Oper} {rest : List Oper} {o : Oper} {a : Act} {Q : Exit → Act → World → Prop} (hgd : o.guard = none) (sl x : Operand)
    (ho : o.op = .call { callee := .builtin .append, args := #[sl, x], argTypes := #[28, 28] })
    (v u : Value) (vs : List Value) (g c : Nat) (hs : a.eval sl = v) (h : OffR w 22 v vs) (hx : a.eval x = .slice (some ⟨g, 0, none⟩) 1 c) (hg : w.heap[g]? = some (.cells #[u] 22 (0, 0))) (hgv : ¬ own v g) (hu : u.oneCell' = true) (hn : vs.length ≤ 4100)
    (m : Nat) (hm : m = vs.length + 1)
    (hK : ∀ ao cap w', Hid (OffR w' 22 (.slice ao m cap) (vs ++ [u])) → Hid (Upd (own v) w w') → Hid (∀ k, own (.slice ao m cap) k → own v k ∨ w.heap.size ≤ k) → wpList Tryd.prog ops Q rest (a.put o.dst (.slice ao m cap)) w') : wpList Tryd.prog ops Q (o :: rest) a w :=
  wpList_plain hgd fun K hK' => wp_append_off w sl x ho v u vs g c hs h hx hg hgv hu hn m hm fun ao cap w' a1 a2 a3 => hK' _ _ (hK ao cap w' a1 a2 a3)
theorem step_append_off (w : World) {ops : Array Oper} {o : Oper} {a : Act} {K : Act → World → Prop} {Q : Exit → Act → World → Prop} {E : Prop} (hgd : o.guard = none) (sl x : Operand)
    (ho : o.op = .call { callee := .builtin .append, args := #[sl, x], argTypes := #[28, 28] })
    (v u : Value) (vs : List Value) (g c : Nat) (hs : a.eval sl = v) (h : OffR w 22 v vs) (hx : a.eval x = .slice (some ⟨g, 0, none⟩) 1 c) (hg : w.heap[g]? = some (.cells #[u] 22 (0, 0))) (hgv : ¬ own v g) (hu : u.oneCell' = true) (hn : vs.length ≤ 4100)
    (m : Nat) (hm : m = vs.length + 1)
    (hK : ∀ ao cap w', Hid (OffR w' 22 (.slice ao m cap) (vs ++ [u])) → Hid (Upd (own v) w w') → Hid (∀ k, own (.slice ao m cap) k → own v k ∨ w.heap.size ≤ k) → K (a.put o.dst (.slice ao m cap)) w') : if Region.wanted o (yielded ops a.tmps) = true then Oper.wp Tryd.prog o a w K Q else E := by
  have hw : Region.wanted o (yielded ops a.tmps) = true := by simp [Region.wanted, hgd]
  rw [if_pos hw]
  exact wp_append_off w sl x ho v u vs g c hs h hx hg hgv hu hn m hm hK
end Go.Proofs.YtgfdnljblfkhkabDoor.OffR
