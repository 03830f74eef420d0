/-
  A block that is known whole, as a list of cells.
-/
import Derived.Test.YtgcionimhmbgeaaDoorRMem
import Derived.Test.YtgcionimhmbgeaaDoorRSha
import Derived.Laws.Rows
import Derived.Deep.Draws
import Derived.Laws.CopyOwn
namespace Go.Proofs.YtgcionimhmbgeaaDoorR.RowW
open Go.RowKit Sha Mem
set_option linter.unusedVariables false

def Row (w : World) (g : Nat) (T : TypeId) (cs : List Value) : Prop := w.heap[g]? = some (.cells cs.toArray T (0, 0))
theorem Row.lt {w : World} {g : Nat} {T : TypeId} {cs : List Value} (h : Row w g T cs) : g < w.heap.size := lt_of_block h
theorem Row.cell {w : World} {g : Nat} {T : TypeId} {cs : List Value} (h : Row w g T cs) (i : Nat) : w.cell? ⟨g, i, none⟩ = cs[i]? := by
  rw [cell_of_row w g i _ _ _ h]; simp
theorem Row.frozen {w : World} {g : Nat} {T : TypeId} {cs : List Value} (h : Row w g T cs) (i : Nat) : w.frozen? ⟨g, i, none⟩ = false := by
  unfold Row at h; simp [World.frozen?, h]
theorem Row.drew {w : World} {g : Nat} {T : TypeId} {cs : List Value} (h : Row w g T cs) : Row w.drew g T cs := h
theorem Row.drewN {w : World} {g : Nat} {T : TypeId} {cs : List Value} (h : Row w g T cs) (n : Nat) : Row (w.drewN n) g T cs := h
theorem Row.set {w : World} {g : Nat} {T : TypeId} {cs : List Value} (h : Row w g T cs) (i : Nat) (v : Value) : Row (w.setCell ⟨g, i, none⟩ v) g T (cs.set i v) := by
  have := heap_setCell_same w g i _ T v h
  simpa [Row] using this
theorem Row.upd {w w' : World} {g : Nat} {T : TypeId} {cs : List Value} {S : Nat → Prop} (h : Row w g T cs) (hu : Upd S w w') (hg : ¬ S g) : Row w' g T cs := (hu.block g h.lt hg).trans h
theorem Row.far {w : World} {g : Nat} {T : TypeId} {cs : List Value} (h : Row w g T cs) {p : Addr} (hp : g ≠ p.block) (v : Value) : Row (w.setCell p v) g T cs := (heap_setCell_other w p g v hp).trans h
theorem Row.alloc {w : World} {g : Nat} {T : TypeId} {cs : List Value} (h : Row w g T cs) (o : Obj) : Row (w.alloc o) g T cs := (Below.heap_alloc w o g h.lt).trans h
theorem Row.new (w : World) (T : TypeId) (cs : List Value) : Row (w.alloc (.cells cs.toArray T)) w.heap.size T cs := heap_alloc_new w _
theorem Upd.drewN {S : Nat → Prop} {a w : World} (h : Upd S a w) (n : Nat) : Upd S a (w.drewN n) := ⟨h.os, h.tape, h.output, h.size, h.block⟩
theorem Upd.setRow {S : Nat → Prop} {a w : World} (h : Upd S a w) (g : Nat) (cs : Array Value) (hg : S g ∨ a.heap.size ≤ g) : Upd S a (w.setRow g cs) :=
  h.trans ⟨rfl, rfl, rfl, by simp [World.setRow], fun k hk hn => setRow_other w g k cs (fun e => hn (by subst e; exact hg))⟩
theorem Row.setRow {w : World} {g : Nat} {T : TypeId} {cs : List Value} (h : Row w g T cs) (cs' : List Value) : Row (w.setRow g cs'.toArray) g T cs' := setRow_heap w g _ _ T _ h
theorem wpList_store_new {P : Program} {ops : Array Oper} {rest : List Oper} {o : Oper} {a : Act} {w : World} {Q : Exit → Act → World → Prop} (hgd : o.guard = none) (ty : TypeId) (x y : Operand) (ho : o.op = .store ty x y)
    (g : Nat) (cells : Array Value) (hx : a.eval x = .pointer (some ⟨g, 0, none⟩)) (hy : a.eval y = .agg cells)
    (t : TypeId) (old : Array Value) (hg : w.heap[g]? = some (.cells old t (0, 0))) (hi : (P.info? ty).map (·.size) = some cells.size)
    (hold : old.size = cells.size) (h1 : cells.all (·.oneCell') = true)
    (h : ∀ w', Hid (w'.heap[g]? = some (.cells cells t (0, 0))) → Hid (Upd (fun k => k = g) w w') → wpList P ops Q rest (a.put o.dst undef) w') : wpList P ops Q (o :: rest) a w :=
  wpList_store_row hgd ty x y ho g cells hx hy t old hg hi hold h1 (h _ (setRow_heap w g old cells t _ hg) (Upd.setRow (Upd.refl _ _) g cells (.inl rfl)))
theorem add_none (g o i : Nat) : (⟨g, o, none⟩ : Addr).add i = ⟨g, o + i, none⟩ := by unfold Addr.add; split <;> simp_all
theorem add_add (a : Addr) (i j : Nat) : (a.add i).add j = a.add (i + j) := by
  unfold Addr.add
  by_cases hi : i = 0 <;> by_cases hj : j = 0 <;> simp [hi, hj, Nat.add_assoc]
end Go.Proofs.YtgcionimhmbgeaaDoorR.RowW
