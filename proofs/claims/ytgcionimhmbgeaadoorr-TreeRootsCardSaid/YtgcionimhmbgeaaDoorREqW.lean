/-
  Two digests compared; clear; arrays of bytes that come in.
-/
import Derived.Test.YtgcionimhmbgeaaDoorRCopyW
import Derived.Laws.StructEq
import Derived.Lib.SliceRun
namespace Go.Proofs.YtgcionimhmbgeaaDoorR.EqW
open Go.RowKit Mem RowW CopyW
set_option linter.unusedVariables false

theorem run_part (xs : List UInt8) (i : Nat) (hi : i < xs.length) (w : World) : (part 5 (xs.map u8).toArray i).run Tryd.prog w = .ok (u8 (xs.getD i 0)) w := by
  have ha := Tryd.isAgg5
  have hc : (xs.map u8).toArray[i]? = some (u8 (xs.getD i 0)) := by
    rw [List.getElem?_toArray, List.getElem?_map, List.getD_eq_getElem?_getD, List.getElem?_eq_getElem hi]
    rfl
  unfold part
  rw [Sem.run_bind, ha]
  simp [hc]
theorem run_eq_byte (a b : UInt8) (w : World) : (Op.equalIn 9999 5 (u8 a) (u8 b)).run Tryd.prog w = .ok (a == b) w := by
  rw [show (9999 : Nat) = 9998 + 1 from rfl, Op.equalIn]
  simp only [Sem.run_bind, run_underlying Tryd.underlying5, Result.andThen_ok, u8]
  have e : ((a.toNat : Int) == (b.toNat : Int)) = (a == b) := by
    rw [Bool.eq_iff_iff]
    simp only [beq_iff_eq]
    exact ⟨fun h => UInt8.toNat_inj.1 (by omega), fun h => by rw [h]⟩
  rw [← e]
  simp
theorem run_eq_digest (xs ys : List UInt8) (hx : xs.length = 32) (hy : ys.length = 32) (w : World) :
    (Op.equalIn 10000 23 (.agg (xs.map u8).toArray) (.agg (ys.map u8).toArray)).run Tryd.prog w = .ok (xs == ys) w := by
  have ha := Tryd.isAgg5
  have hz := Tryd.sizeOf5
  rw [show (10000 : Nat) = 9999 + 1 from rfl, Op.equalIn]
  simp only [Sem.run_bind, run_underlying Tryd.underlying23, Result.andThen_ok]
  simp only [Std.Legacy.Range.forIn_eq_forIn_range', Std.Legacy.Range.size, Nat.sub_zero, Nat.add_sub_cancel, Nat.div_one]
  rw [hz, Result.andThen_ok]
  have key : ∀ k s, s + k ≤ 32 → Sem.run Tryd.prog (forIn (List.range' s k) ((none : Option Bool), ()) fun i __s => do
      let __do_lift ← part 5 (List.map u8 xs).toArray (i * 1)
      let __do_lift_1 ← part 5 (List.map u8 ys).toArray (i * 1)
      let __do_lift ← Op.equalIn 9999 5 __do_lift __do_lift_1
      if (!__do_lift) = true then pure (ForInStep.done (some false, ())) else pure (ForInStep.yield (none, ()))) w
      = .ok (if (xs.drop s).take k = (ys.drop s).take k then (none, ()) else (some false, ())) w := by
    intro k
    induction k with
    | zero => intro s _; simp
    | succ k ih =>
      intro s hs
      rw [List.range'_succ, List.forIn_cons]
      simp only [Sem.run_bind, Nat.mul_one, run_part xs s (by omega), run_part ys s (by omega), run_eq_byte, Result.andThen_ok]
      have ex : (xs.drop s).take (k + 1) = xs.getD s 0 :: (xs.drop (s + 1)).take k := by
        rw [List.drop_eq_getElem_cons (by omega), List.take_succ_cons, List.getD_eq_getElem?_getD, List.getElem?_eq_getElem (by omega)]
        rfl
      have ey : (ys.drop s).take (k + 1) = ys.getD s 0 :: (ys.drop (s + 1)).take k := by
        rw [List.drop_eq_getElem_cons (by omega), List.take_succ_cons, List.getD_eq_getElem?_getD, List.getElem?_eq_getElem (by omega)]
        rfl
      rw [ex, ey]
      generalize xs.getD s 0 = a
      generalize ys.getD s 0 = b
      by_cases h : a = b
      · subst h
        have h2 := ih (s + 1) (by omega)
        simp only [Nat.mul_one] at h2
        simp only [beq_self_eq_true, Bool.not_true, Bool.false_eq_true, if_false, Sem.run_pure, Result.andThen_ok, List.cons.injEq, true_and]
        exact h2
      · simp [h]
  have h := key 32 0 (by omega)
  rw [h]
  rw [List.drop_zero, List.drop_zero, List.take_of_length_le (by omega), List.take_of_length_le (by omega)]
  by_cases e : xs = ys
  · subst e; simp
  · simp [e]
theorem eql_digest (xs ys : List UInt8) (hx : xs.length = 32) (hy : ys.length = 32) (w : World) :
    (binOp .eql 23 (.agg (xs.map u8).toArray) (.agg (ys.map u8).toArray)).run Tryd.prog w = .ok (.bool (xs == ys)) w := by
  rw [run_eql_struct, run_eq_digest xs ys hx hy, Result.andThen_ok]
theorem neq_digest (xs ys : List UInt8) (hx : xs.length = 32) (hy : ys.length = 32) (w : World) :
    (binOp .neq 23 (.agg (xs.map u8).toArray) (.agg (ys.map u8).toArray)).run Tryd.prog w = .ok (.bool (!(xs == ys))) w := by
  rw [run_neq_struct, run_eq_digest xs ys hx hy, Result.andThen_ok]

theorem setCells_row (g : Nat) (T : TypeId) (vs : List Value) : ∀ (o : Nat) (w : World) (cur : List Value), Row w g T cur → o + vs.length ≤ cur.length → Row (w.setCells g o vs) g T (splice cur o vs) := by
  induction vs with
  | nil => intro o w cur h _; simpa [splice, World.setCells] using h
  | cons v vs ih =>
    intro o w cur h hl
    rw [List.length_cons] at hl
    have h1 := ih (o + 1) _ _ (h.set o v) (by rw [List.length_set]; omega)
    have e : splice (cur.set o v) (o + 1) vs = splice cur o (v :: vs) := by
      unfold splice
      rw [List.take_set, List.drop_set_of_lt (by omega), List.take_succ_eq_append_getElem (by omega), List.set_append_right _ _ (by simp; omega)]
      simp [Nat.min_eq_left (show o ≤ cur.length by omega), Nat.add_assoc, Nat.add_comm 1]
    rw [e] at h1
    exact h1
theorem upd_setCells (g : Nat) (vs : List Value) : ∀ (o : Nat) (w : World), Upd (fun k => k = g) w (w.setCells g o vs) := by
  induction vs with
  | nil => intro o w; exact Upd.refl _ _
  | cons v vs ih =>
    intro o w
    exact (Upd.put (S := fun k => k = g) (Upd.refl _ w) g o (.inl rfl) v).trans ((ih (o + 1) _).mono fun _ _ h => .inl h)
theorem wpList_clear_new {P : Program} {w : World} {ops : Array Oper} {rest : List Oper} {o : Oper} {a : Act} {Q : Exit → Act → World → Prop} (hgd : o.guard = none) (s : Operand) (sT : TypeId)
    (ho : o.op = .call { callee := .builtin .clear, args := #[s], argTypes := #[sT] }) (elem : TypeId) (hu : P.underlying sT = some (.slice elem)) (z : Value) (hv : ∀ w, (zeroValue elem).run P w = .ok z w) (hz : z.cells = #[z]) (h1 : z.oneCell' = true)
    (g off n cap : Nat) (hs : a.eval s = .slice (some ⟨g, off, none⟩) n cap) (cur : List Value) (T : TypeId) (hg : Row w g T cur) (hfit : off + n ≤ cur.length)
    (h : ∀ w', Hid (Row w' g T (splice cur off (List.replicate n z))) → Hid (Upd (fun k => k = g) w w') → wpList P ops Q rest (a.put o.dst (.tuple #[])) w') :
    wpList P ops Q (o :: rest) a w := by
  refine wpList_plain hgd fun K hK => ?_
  have hrun : ∃ w', (Builtin.clear_ #[sT] o.type #[.slice (some ⟨g, off, none⟩) n cap]).run P w = .ok (.tuple #[]) w' ∧ Row w' g T (splice cur off (List.replicate n z)) ∧ Upd (fun k => k = g) w w' := by
    rcases Nat.eq_zero_or_pos n with h0 | h0
    · subst h0
      refine ⟨w, ?_, by simpa [splice] using hg, Upd.refl _ _⟩
      simp [Builtin.clear_, run_underlying hu]
    · refine ⟨_, Lib.run_clear_slice w sT elem o.type z hu hv hz h1 g off n cap h0 (fun j hj => ?_) (fun j _ => hg.frozen _), setCells_row g T _ off w cur hg (by simpa using hfit), upd_setCells g _ off w⟩
      rw [hg.cell, List.getElem?_eq_getElem (by omega)]
      rfl
  obtain ⟨w', hr, h2, h3⟩ := hrun
  unfold Oper.wp
  simp [execOp, ho, resolve, invoke, builtin, hs, hr, Result.andThen]
  exact hK _ _ (h w' h2 h3)
end Go.Proofs.YtgcionimhmbgeaaDoorR.EqW
