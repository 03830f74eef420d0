/-
  append of bytes to a row of bytes, as a step of a region that draws its order.
-/
import Derived.Test.YtcdgimapkbaboaaMem
import Derived.Laws.OwnMore
import Derived.Maps.AppendAt
namespace Go.Proofs.Ytcdgimapkbaboaa.StepB
open Go.RowKit Mem
set_option linter.unusedVariables false

theorem run_append_bytes (w : World) (ty : TypeId) (v : Value) (l t : List UInt8) (hown : w.ownsRow 0 5 1 v l.length (l.map u8)) (sv : Value) (hsl : Sl w sv t)
    (h63 : l.length + t.length ≤ maxLen) (hbytes : l.length + t.length ≤ 140737488355328) :
    ∃ v' w', (Builtin.append_ #[30, 30] ty #[v, sv]).run Try.prog w = .ok v' w' ∧ w'.ownsRow 0 5 1 v' (l ++ t).length ((l ++ t).map u8) ∧ w.grownBy w' v.ownBlock ∧ (v'.ownBlock = v.ownBlock ∨ v'.ownBlock = some w.heap.size) := by
  obtain ⟨i0, hi, hz0, hz1, hz2⟩ := info_parts info8
  obtain ⟨ao, cap, rfl, h1, h2, h3, h4⟩ := hsl
  cases ao with
  | none =>
    obtain rfl := h3 rfl
    have h0 : t = [] := List.eq_nil_of_length_eq_zero (by omega)
    subst h0
    exact ⟨v, w, run_append_owned_none (P := Try.prog) (w := w) 0 30 ty 5 i0 1 Try.underlying30 hi v _ _ hown, by simpa using hown, World.grownBy.refl _ _, .inl rfl⟩
  | some ad =>
    obtain ⟨hsp, hcell⟩ := h4 ad rfl
    obtain ⟨v', w', hr, a1, a2, _, a4⟩ := run_append_own_at (P := Try.prog) w 0 30 ty 5 i0 (.int .u8 0) 1 1 Try.underlying30 hi hz0 hz1 hz2 rfl (by decide) v _ _ hown ad t.length cap (t.map u8) (by simp) (fun j u hu => by
      have hj : j < t.length := by have := (List.getElem?_eq_some_iff.1 hu).1; simpa using this
      have e : u = u8 (t.getD j 0) := by simp [hj] at hu; simp [List.getD, hj, hu]
      rw [e]
      exact hcell j hj) (fun u hu => by obtain ⟨_, _, rfl⟩ := List.mem_map.1 hu; rfl) h63 (by omega) (Nat.zero_le _)
    exact ⟨v', w', hr, by rw [List.length_append, List.map_append]; exact a1, a2, a4⟩
theorem slice_of {w : World} {base n s : Nat} {e : TypeId} {v : Value} {xs : List Value} (h : w.ownsRow base e s v n xs) : ∃ ao cap, v = .slice ao n cap := by
  rcases h.2 with ⟨rfl, rfl⟩ | ⟨g, cap, cur, rfl, _⟩
  · exact ⟨_, _, rfl⟩
  · exact ⟨_, _, rfl⟩

theorem step_append_bytes (w : World) {ops : Array Oper} {o : Oper} {a : Act} {K : Act → World → Prop} {Q : Exit → Act → World → Prop} {E : Prop} (hgd : o.guard = none) (sl x : Operand)
    (ho : o.op = .call { callee := .builtin .append, args := #[sl, x], argTypes := #[30, 30] })
    (v : Value) (l t : List UInt8) (hs : a.eval sl = v) (hown : w.ownsRow 0 5 1 v l.length (l.map u8)) (sv : Value) (hx : a.eval x = sv) (hsl : Sl w sv t)
    (h63 : l.length + t.length ≤ maxLen) (hbytes : l.length + t.length ≤ 140737488355328) (m : Nat) (hm : m = l.length + t.length)
    (hK : ∀ ao cap w', Hid (w'.ownsRow 0 5 1 (.slice ao m cap) m ((l ++ t).map u8)) → Hid (w.grownBy w' v.ownBlock) → Hid ((Value.slice ao m cap).ownBlock = v.ownBlock ∨ (Value.slice ao m cap).ownBlock = some w.heap.size) → K (a.put o.dst (.slice ao m cap)) w') :
    if Region.wanted o (yielded ops a.tmps) = true then Oper.wp Try.prog o a w K Q else E := by
  have hw : Region.wanted o (yielded ops a.tmps) = true := by simp [Region.wanted, hgd]
  rw [if_pos hw]
  obtain ⟨v', w', hrun, r1, r2, r3⟩ := run_append_bytes w o.type v l t hown sv hsl h63 hbytes
  unfold Oper.wp
  simp [execOp, ho, resolve, invoke, builtin, hs, hx, hrun, Result.andThen]
  rw [List.length_append, ← hm] at r1
  obtain ⟨ao, cap, rfl⟩ := slice_of r1
  exact hK ao cap w' r1 r2 r3
end Go.Proofs.Ytcdgimapkbaboaa.StepB
