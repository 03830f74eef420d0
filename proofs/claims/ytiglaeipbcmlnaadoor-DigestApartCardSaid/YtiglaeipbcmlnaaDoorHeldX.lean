/-
  append([]byte(nil), p...): a copy in new memory.
-/
import Derived.Test.YtiglaeipbcmlnaaDoorHeldW
namespace Go.Proofs.YtiglaeipbcmlnaaDoor.HeldW
open Go.RowKit Sha Mem RowW CopyW BookW EqW
set_option linter.unusedVariables false

/-- append([]byte(nil), p...): a copy in new memory -/
theorem wpList_copy_nil (w : World) {ops : Array Oper} {rest : List Oper} {o : Oper} {a : Act} {Q : Exit → Act → World → Prop} (hgd : o.guard = none) (sl x : Operand)
    (ho : o.op = .call { callee := .builtin .append, args := #[sl, x], argTypes := #[25, 25] }) (hs : a.eval sl = .slice none 0 0)
    (n : Nat) (t : List UInt8) (hn : n = t.length) (sv : Value) (hx : a.eval x = sv) (hsl : Sl w sv t) (hb : n ≤ 140737488355328)
    (h : ∀ ao cap w', Hid (w'.ownsRow 0 5 1 (.slice ao n cap) n (t.map u8)) → Hid (Upd (fun _ => False) w w') → Hid (∀ k, own (.slice ao n cap) k → w.heap.size ≤ k) → wpList Tryd.prog ops Q rest (a.put o.dst (.slice ao n cap)) w') :
    wpList Tryd.prog ops Q (o :: rest) a w := by
  subst hn
  refine wpList_append_bytes w hgd sl x ho 0 (.slice none 0 0) [] t hs (own_nil w) sv hx hsl (by unfold maxLen; simp; omega) (by simp; omega) (Nat.zero_le _) ?_
  intro v' w' h1 h2 h3
  have h1' := h1.out
  rw [List.nil_append] at h1'
  have hu : Upd (fun _ => False) w w' := Upd.grown h2.out (fun k hk => by simp [Value.ownBlock] at hk)
  have hk : ∀ k, own v' k → w.heap.size ≤ k := fun k hk => by
    rcases h3.out with h | h
    · unfold own at hk; rw [h] at hk; simp [Value.ownBlock] at hk
    · unfold own at hk; rw [h] at hk; cases hk; exact Nat.le_refl _
  rcases h1'.2 with ⟨rfl, h0⟩ | ⟨g, cap, cur, rfl, h4⟩
  · rw [h0] at h1' h
    exact h none 0 w' h1' hu hk
  · exact h _ cap w' h1' hu hk
end Go.Proofs.YtiglaeipbcmlnaaDoor.HeldW
