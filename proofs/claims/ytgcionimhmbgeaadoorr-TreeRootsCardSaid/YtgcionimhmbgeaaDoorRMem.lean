/-
  Memory: what a piece of code may have written (Upd), lists of bytes that lie in memory (Sl), and a Writer's state (Wr).
-/
import Derived.Test.YtgcionimhmbgeaaDoorRRows
import Derived.WalkKit
import Derived.ProofKit
import Derived.Lib.Hide
import Derived.Deep.AppendLies
import Derived.OneCell
namespace Go.Proofs.YtgcionimhmbgeaaDoorR.Mem
open Go.RowKit
set_option linter.unusedVariables false

/-- w' is w, but for blocks in S, and for new blocks -/
structure Upd (S : Nat → Prop) (w w' : World) : Prop where
  os : w'.os = w.os
  tape : w'.tape = w.tape
  output : w'.output = w.output
  size : w.heap.size ≤ w'.heap.size
  block : ∀ k, k < w.heap.size → ¬ S k → w'.heap[k]? = w.heap[k]?

theorem Upd.refl (S : Nat → Prop) (w : World) : Upd S w w := ⟨rfl, rfl, rfl, Nat.le_refl _, fun _ _ _ => rfl⟩
theorem Upd.mono {S T : Nat → Prop} {w w' : World} (h : Upd S w w') (hs : ∀ k, k < w.heap.size → S k → T k) : Upd T w w' :=
  ⟨h.os, h.tape, h.output, h.size, fun k hk hn => h.block k hk fun hS => hn (hs k hk hS)⟩
theorem Upd.trans {S : Nat → Prop} {a b c : World} (h : Upd S a b) (k : Upd (fun i => S i ∨ a.heap.size ≤ i) b c) : Upd S a c :=
  ⟨k.os.trans h.os, k.tape.trans h.tape, k.output.trans h.output, Nat.le_trans h.size k.size,
   fun i hi hn => (k.block i (Nat.lt_of_lt_of_le hi h.size) (fun e => e.elim hn (fun e => by omega))).trans (h.block i hi hn)⟩
theorem Upd.grown {S : Nat → Prop} {w w' : World} {row : Option Nat} (hg : w.grownBy w' row) (hr : ∀ k, row = some k → S k) : Upd S w w' :=
  ⟨hg.os, hg.tape, hg.output, hg.size, fun k hk hn => hg.block k hk (fun e => hn (hr k e.symm))⟩
theorem Upd.drew {S : Nat → Prop} {a w : World} (h : Upd S a w) : Upd S a w.drew := ⟨h.os, h.tape, h.output, h.size, h.block⟩
theorem Upd.alloc {S : Nat → Prop} {a w : World} (h : Upd S a w) (o : Obj) : Upd S a (w.alloc o) :=
  h.trans ⟨rfl, rfl, rfl, by simp, fun k hk _ => Below.heap_alloc _ _ _ hk⟩
theorem Upd.setCell {S : Nat → Prop} {a w : World} (h : Upd S a w) {p : Addr} (hp : S p.block ∨ a.heap.size ≤ p.block) (u : Value) : Upd S a (w.setCell p u) :=
  h.trans ⟨rfl, rfl, rfl, by simp [World.setCell], fun k hk hn => Below.heap_setCell _ _ _ _ (fun e => hn (e ▸ hp))⟩
theorem Upd.put {S : Nat → Prop} {a w : World} (h : Upd S a w) (b o : Nat) (hb : S b ∨ a.heap.size ≤ b) (u : Value) : Upd S a (w.setCell ⟨b, o, none⟩ u) := h.setCell hb u
theorem Upd.below {S : Nat → Prop} {w w' : World} {B : Nat} (h : Upd S w w') (hB : B ≤ w.heap.size) (hS : ∀ k, k < B → ¬ S k) : Below B w w' :=
  ⟨h.os, h.tape, h.output, h.size, fun k hk => h.block k (by omega) (hS k hk)⟩
theorem Upd.cell {S : Nat → Prop} {w w' : World} (h : Upd S w w') {p : Addr} {v : Value} (hc : w.cell? p = some v) (hp : ¬ S p.block) : w'.cell? p = some v :=
  (World.cell?_of_block (h.block p.block (World.block_lt_of_cell? w p hc) hp)).trans hc

/-- the block that a slice value leads into -/
def own (v : Value) (k : Nat) : Prop := v.ownBlock = some k

def u8 (c : UInt8) : Value := .int .u8 (c.toNat : Int)

/-- v is a slice that reads as the bytes l -/
def Sl (w : World) (v : Value) (l : List UInt8) : Prop :=
  ∃ ao cap, v = .slice ao l.length cap ∧ l.length ≤ cap ∧ cap ≤ maxLen ∧ (ao = none → cap = 0) ∧
    ∀ a, ao = some a → a.spot = none ∧ ∀ i, i < l.length → w.cell? (a.add i) = some (u8 (l.getD i 0))

theorem Sl.upd {S : Nat → Prop} {w w' : World} {v : Value} {l : List UInt8} (h : Sl w v l) (hu : Upd S w w') (hd : ∀ k, own v k → ¬ S k) : Sl w' v l := by
  obtain ⟨ao, cap, rfl, h1, h2, h3, h4⟩ := h
  refine ⟨ao, cap, rfl, h1, h2, h3, fun a ha => ⟨(h4 a ha).1, fun i hi => ?_⟩⟩
  subst ha
  have hc := (h4 a rfl).2 i hi
  refine hu.cell hc (hd _ ?_)
  simp [own, Value.ownBlock, Addr.add]
  split <;> rfl

/-- a value v lies alone at block b, of a type t with one cell -/
def Wr (w : World) (b : Nat) (v : Value) (l : List UInt8) : Prop :=
  w.heap[b]? = some (.cells #[v] 139 (0, 0)) ∧ w.ownsRow 0 5 1 v l.length (l.map u8)

theorem info8 : (Tryd.prog.info? 5).map (fun i => (i.zero, i.size, i.bytes)) = some (some (.int .u8 0), 1, 1) := by kernel_rfl


theorem rowNe {w : World} {b : Nat} {cs : Array Value} {T e : TypeId} {fr : Nat × Nat} {v : Value} {n s : Nat} {xs : List Value} (hb : w.heap[b]? = some (.cells cs T fr)) (hT : T ≠ e) (hown : w.ownsRow 0 e s v n xs) : v.ownBlock ≠ some b := by
  intro h
  rcases hown.2 with ⟨rfl, _⟩ | ⟨g, cap, cur, rfl, _, hg, _⟩
  · simp [Value.ownBlock] at h
  · simp [Value.ownBlock] at h
    subst h
    rw [hb] at hg
    simp at hg
    exact hT hg.2.1

/-- A block of one cell that does not hold the row is as it was behind an append onto the row. -/
theorem one_kept {wr W w1 : World} {b : Nat} {x : Value} {T e : TypeId} {v : Value} {n s : Nat} {xs : List Value} (hb : wr.heap[b]? = some (.cells #[x] T (0, 0))) (hT : T ≠ e) (hown : wr.ownsRow 0 e s v n xs)
    (hW : ∀ k, k < wr.heap.size → W.heap[k]? = wr.heap[k]?) (hs : wr.heap.size ≤ W.heap.size) (hg : W.grownBy w1 v.ownBlock) : w1.heap[b]? = some (.cells #[x] T (0, 0)) := by
  have hlt := lt_of_block hb
  rw [hg.block b (by omega) (fun e => rowNe hb hT hown e.symm), hW b hlt, hb]

/-- The slice that was appended to is stored back into the one cell at b: the world behind it. -/
theorem upd_append {wr W w1 : World} {b : Nat} {x : Value} {T e : TypeId} {v nv : Value} {n s : Nat} {xs : List Value} (hb : wr.heap[b]? = some (.cells #[x] T (0, 0)))
    (hW : Upd (fun _ => False) wr W) (hg : W.grownBy w1 v.ownBlock) : Upd (fun k => k = b ∨ own v k) wr (w1.setCell ⟨b, 0, none⟩ nv) := by
  refine ((hW.mono (fun _ _ h => h.elim)).trans (S := fun k => k = b ∨ own v k) ((Upd.grown hg (S := fun k => own v k) (fun k hk => hk)).mono fun k _ hk => .inl (.inr hk))).setCell (.inl (.inl rfl)) _

theorem row_stored {wr w1 : World} {b g n m cap s : Nat} {x nv : Value} {T e : TypeId} {xs : List Value} (hb : w1.heap[b]? = some (.cells #[x] T (0, 0))) (hT : T ≠ e)
    (hown : w1.ownsRow 0 e s (.slice (some ⟨g, 0, none⟩) n cap) m xs) : (w1.setCell ⟨b, 0, none⟩ nv).ownsRow 0 e s (.slice (some ⟨g, 0, none⟩) n cap) m xs :=
  ownsRow_setCell_other hown (rowNe hb hT hown) _
end Go.Proofs.YtgcionimhmbgeaaDoorR.Mem
