/-
  docketbook.Book[byte]: what a book holds.
-/
import Derived.Test.YtgfdnljblfkhkabDoorOffR
import Derived.Test.YtgfdnljblfkhkabDoorBookW
import Derived.Test.YtgfdnljblfkhkabDoorIntsW
import Derived.Deep.RegionHeld3
namespace Go.Proofs.YtgfdnljblfkhkabDoor.BookM
open Go.RowKit Sha Mem RowW CopyW BookW OffR
set_option linter.unusedVariables false

/-- one list that is kept: the list, the copy, what both read as -/
structure Ent where
  v : Value
  u : Value
  xs : List UInt8

/-- the cells of a struct, but for the book's own four -/
def But (o : Nat) (cs cs' : List Value) : Prop := cs'.length = cs.length ∧ ∀ i, i < o ∨ o + 4 ≤ i → cs'[i]? = cs[i]?
theorem But.refl (o : Nat) (cs : List Value) : But o cs cs := ⟨rfl, fun _ _ => rfl⟩
theorem But.trans {o : Nat} {a b c : List Value} (h : But o a b) (k : But o b c) : But o a c := ⟨k.1.trans h.1, fun i hi => (k.2 i hi).trans (h.2 i hi)⟩
theorem But.set {o : Nat} {cs cs' : List Value} (h : But o cs cs') (j : Nat) (hj : o ≤ j ∧ j < o + 4) (v : Value) : But o cs (cs'.set j v) :=
  ⟨by rw [List.length_set]; exact h.1, fun i hi => by rw [List.getElem?_set_ne (by omega)]; exact h.2 i hi⟩

/-- the list is as it was kept, in blocks of O and R -/
structure EntOk (w : World) (R O : Nat → Prop) (e : Ent) : Prop where
  own : w.ownsRow 0 5 1 e.v e.xs.length (e.xs.map u8)
  was : w.ownsRow 0 5 1 e.u e.xs.length (e.xs.map u8)
  inO : ∀ k, Mem.own e.v k → O k
  inR : ∀ k, Mem.own e.u k → R k
  len : e.xs.length ≤ 140737488355328

/-- a book lies in block b from cell o on; its rows lie in R, the lists that it keeps in O -/
structure Bk (w : World) (b : Nat) (T : TypeId) (cs : List Value) (o : Nat) (K : List Ent) (R O : Nat → Prop) (lv wv : Value) (hv : Int) : Prop where
  row : Row w b T cs
  c0 : cs[o]? = some lv
  c1 : cs[o + 1]? = some wv
  c2 : cs[o + 2]? = some (.int .i64 hv)
  c3 : cs[o + 3]? = some (.bool false)
  lrow : OffR w 22 lv (K.map Ent.v)
  wrow : OffR w 22 wv (K.map Ent.u)
  ents : ∀ e ∈ K, EntOk w R O e
  inL : ∀ k, Mem.own lv k → R k
  inW : ∀ k, Mem.own wv k → R k
  lw : ∀ k, Mem.own lv k → ¬ Mem.own wv k
  apart : K.Pairwise (fun e f => ∀ k, Mem.own e.v k → ¬ Mem.own f.v k)

def BkW (w : World) (b : Nat) (T : TypeId) (cs : List Value) (o : Nat) (K : List Ent) (R O : Nat → Prop) : Prop := ∃ lv wv hv, Bk w b T cs o K R O lv wv hv

theorem own_lt {w : World} {base n s : Nat} {e : TypeId} {v : Value} {xs : List Value} (h : w.ownsRow base e s v n xs) {k : Nat} (hk : Mem.own v k) : k < w.heap.size ∧ ∃ cur, w.heap[k]? = some (.cells cur e (0, 0)) := by
  refine ⟨(h.lt k hk).2, ?_⟩
  rcases h.2 with ⟨rfl, _⟩ | ⟨g, cap, cur, rfl, _, hg, _⟩
  · simp [Mem.own, Value.ownBlock] at hk
  · simp [Mem.own, Value.ownBlock] at hk
    subst hk
    exact ⟨cur, hg⟩

theorem EntOk.upd {S R O : Nat → Prop} {w w' : World} {e : Ent} (h : EntOk w R O e) (hu : Upd S w w') (h1 : ∀ k, R k → k < w.heap.size → ¬ S k) (h2 : ∀ k, O k → k < w.heap.size → ¬ S k) : EntOk w' R O e :=
  ⟨IntsW.own_upd h.own hu fun k hk => h2 k (h.inO k hk) (own_lt h.own hk).1, IntsW.own_upd h.was hu fun k hk => h1 k (h.inR k hk) (own_lt h.was hk).1, h.inO, h.inR, h.len⟩
theorem Bk.upd {S R O : Nat → Prop} {w w' : World} {b : Nat} {T : TypeId} {cs : List Value} {o : Nat} {K : List Ent} {lv wv : Value} {hv : Int} (h : Bk w b T cs o K R O lv wv hv) (hu : Upd S w w') (hb : ¬ S b) (h1 : ∀ k, R k → k < w.heap.size → ¬ S k) (h2 : ∀ k, O k → k < w.heap.size → ¬ S k) :
    Bk w' b T cs o K R O lv wv hv :=
  ⟨h.row.upd hu hb, h.c0, h.c1, h.c2, h.c3, h.lrow.upd hu fun k hk => h1 k (h.inL k hk) (h.lrow.lt hk).1, h.wrow.upd hu fun k hk => h1 k (h.inW k hk) (h.wrow.lt hk).1, fun e he => (h.ents e he).upd hu h1 h2, h.inL, h.inW, h.lw, h.apart⟩
theorem BkW.upd {S R O : Nat → Prop} {w w' : World} {b : Nat} {T : TypeId} {cs : List Value} {o : Nat} {K : List Ent} (h : BkW w b T cs o K R O) (hu : Upd S w w') (hb : ¬ S b) (h1 : ∀ k, R k → k < w.heap.size → ¬ S k) (h2 : ∀ k, O k → k < w.heap.size → ¬ S k) : BkW w' b T cs o K R O := by
  obtain ⟨lv, wv, hv, h⟩ := h
  exact ⟨lv, wv, hv, h.upd hu hb h1 h2⟩
theorem BkW.kept {R O : Nat → Prop} {w w' : World} {b : Nat} {T : TypeId} {cs : List Value} {o : Nat} {K : List Ent} (h : BkW w b T cs o K R O) (hu : Upd (fun _ => False) w w') : BkW w' b T cs o K R O :=
  h.upd hu id (fun _ _ _ => id) (fun _ _ _ => id)
/-- the blocks may be told more loosely, and each of them is there -/
theorem BkW.mono {R O R' O' : Nat → Prop} {w : World} {b : Nat} {T : TypeId} {cs : List Value} {o : Nat} {K : List Ent} (h : BkW w b T cs o K R O) (h1 : ∀ k, R k → k < w.heap.size → R' k) (h2 : ∀ k, O k → k < w.heap.size → O' k) : BkW w b T cs o K R' O' := by
  obtain ⟨lv, wv, hv, h⟩ := h
  exact ⟨lv, wv, hv, h.row, h.c0, h.c1, h.c2, h.c3, h.lrow, h.wrow, fun e he => ⟨(h.ents e he).own, (h.ents e he).was, fun k hk => h2 k ((h.ents e he).inO k hk) (own_lt (h.ents e he).own hk).1, fun k hk => h1 k ((h.ents e he).inR k hk) (own_lt (h.ents e he).was hk).1, (h.ents e he).len⟩,
    fun k hk => h1 k (h.inL k hk) (h.lrow.lt hk).1, fun k hk => h1 k (h.inW k hk) (h.wrow.lt hk).1, h.lw, h.apart⟩
/-- a book that holds nothing yet -/
theorem BkW.empty {w : World} {b : Nat} {T : TypeId} {cs : List Value} {o : Nat} (hr : Row w b T cs) (h0 : cs[o]? = some (.slice none 0 0)) (h1 : cs[o + 1]? = some (.slice none 0 0)) (h2 : cs[o + 2]? = some (.int .i64 0)) (h3 : cs[o + 3]? = some (.bool false)) :
    BkW w b T cs o [] (fun _ => False) (fun _ => False) :=
  ⟨_, _, 0, hr, h0, h1, h2, h3, OffR.nil _ _, OffR.nil _ _, by simp, fun k hk => by simp [Mem.own, Value.ownBlock] at hk, fun k hk => by simp [Mem.own, Value.ownBlock] at hk, fun k hk => by simp [Mem.own, Value.ownBlock] at hk, List.Pairwise.nil⟩
theorem Bk.far {R O : Nat → Prop} {w : World} {b : Nat} {T : TypeId} {cs : List Value} {o : Nat} {K : List Ent} {lv wv : Value} {hv : Int} (h : Bk w b T cs o K R O lv wv hv) (hT : T ≠ 22) {v : Value} {vs : List Value} (hv : OffR w 22 v vs) : ¬ Mem.own v b := fun hk => by
  obtain ⟨_, cur, hc⟩ := hv.lt hk
  have h2 := h.row
  unfold Row at h2
  rw [hc] at h2
  injection h2 with h2
  injection h2 with _ h2
  exact hT h2.symm
theorem Bk.far8 {R O : Nat → Prop} {w : World} {b : Nat} {T : TypeId} {cs : List Value} {o : Nat} {K : List Ent} {lv wv : Value} {hv : Int} (h : Bk w b T cs o K R O lv wv hv) (hT : T ≠ 5) {v : Value} {n : Nat} {vs : List Value} (hv : w.ownsRow 0 5 1 v n vs) : ¬ Mem.own v b := fun hk => by
  obtain ⟨_, cur, hc⟩ := own_lt hv hk
  have h2 := h.row
  unfold Row at h2
  rw [hc] at h2
  injection h2 with h2
  injection h2 with _ h2
  exact hT h2.symm
/-- the struct's own cells turn; of the lists the last ones stay -/
theorem Bk.turn {R O : Nat → Prop} {w w' : World} {b : Nat} {T : TypeId} {cs cs' : List Value} {o : Nat} {K K' : List Ent} {lv wv lv' wv' : Value} {hv hv' : Int} (h : Bk w b T cs o K R O lv wv hv)
    (hu : Upd (fun k => k = b) w w') (hT : T ≠ 22) (hT8 : T ≠ 5) (hr : Row w' b T cs') (h0 : cs'[o]? = some lv') (h1 : cs'[o + 1]? = some wv') (h2 : cs'[o + 2]? = some (.int .i64 hv')) (h3 : cs'[o + 3]? = some (.bool false))
    (hK : K' <:+ K) (hl : OffR w 22 lv' (K'.map Ent.v)) (hw : OffR w 22 wv' (K'.map Ent.u)) (hlv : ∀ k, Mem.own lv' k → Mem.own lv k) (hwv : ∀ k, Mem.own wv' k → Mem.own wv k) : Bk w' b T cs' o K' R O lv' wv' hv' := by
  refine ⟨hr, h0, h1, h2, h3, hl.upd hu (fun k hk e => h.far hT hl (e ▸ hk)), hw.upd hu (fun k hk e => h.far hT hw (e ▸ hk)), fun f hf => ?_, fun k hk => h.inL k (hlv k hk), fun k hk => h.inW k (hwv k hk), fun k hk hk' => h.lw k (hlv k hk) (hwv k hk'), h.apart.sublist hK.sublist⟩
  have := h.ents f (hK.subset hf)
  exact ⟨IntsW.own_upd this.own hu (fun k hk e => h.far8 hT8 this.own (e ▸ hk)), IntsW.own_upd this.was hu (fun k hk e => h.far8 hT8 this.was (e ▸ hk)), this.inO, this.inR, this.len⟩

theorem off_far {w : World} {b : Nat} {T : TypeId} {cs : List Value} (h : Row w b T cs) (hT : T ≠ 22) {v : Value} {vs : List Value} (hv : OffR w 22 v vs) {k : Nat} (hk : Mem.own v k) : k ≠ b := fun e => by
  subst e
  obtain ⟨_, cur, hc⟩ := hv.lt hk
  unfold Row at h
  rw [hc] at h
  injection h with h2
  injection h2 with _ h2
  exact hT h2.symm
theorem own_far {w : World} {b : Nat} {T : TypeId} {cs : List Value} (h : Row w b T cs) (hT : T ≠ 5) {v : Value} {n : Nat} {vs : List Value} (hv : w.ownsRow 0 5 1 v n vs) {k : Nat} (hk : Mem.own v k) : k ≠ b := fun e => by
  subst e
  obtain ⟨_, cur, hc⟩ := own_lt hv hk
  unfold Row at h
  rw [hc] at h
  injection h with h2
  injection h2 with _ h2
  exact hT h2.symm
theorem own_off {w : World} {v v' : Value} {n : Nat} {vs vs' : List Value} (h : w.ownsRow 0 5 1 v n vs) (h' : OffR w 22 v' vs') {k : Nat} (hk : Mem.own v k) (hk' : Mem.own v' k) : False := by
  obtain ⟨_, cur, hc⟩ := own_lt h hk
  obtain ⟨_, cur', hc'⟩ := h'.lt hk'
  rw [hc] at hc'
  injection hc' with h2
  injection h2 with _ h2
  exact absurd h2 (by decide)
/-- one list more -/
theorem Bk.push {R O : Nat → Prop} {w w3 w7 : World} {b : Nat} {T : TypeId} {cs : List Value} {o : Nat} {K : List Ent} {lv wv lv2 wv2 v u : Value} {hv : Int} {xs : List UInt8} (h : Bk w b T cs o K R O lv wv hv) (hT : T ≠ 22) (hT8 : T ≠ 5)
    (hown : w.ownsRow 0 5 1 v xs.length (xs.map u8)) (hnew : ∀ k, Mem.own v k → ¬ O k) (hlen : xs.length ≤ 140737488355328)
    (hu3 : Upd (fun k => k = b ∨ Mem.own lv k) w w3) (row3 : Row w3 b T (cs.set o lv2)) (l3 : OffR w3 22 lv2 (K.map Ent.v ++ [v])) (n3 : ∀ k, Mem.own lv2 k → Mem.own lv k ∨ w.heap.size ≤ k)
    (hu7 : Upd (fun k => k = b ∨ Mem.own wv k) w3 w7) (row7 : Row w7 b T ((cs.set o lv2).set (o + 1) wv2)) (r7 : OffR w7 22 wv2 (K.map Ent.u ++ [u])) (n7 : ∀ k, Mem.own wv2 k → Mem.own wv k ∨ w3.heap.size ≤ k)
    (u7 : w7.ownsRow 0 5 1 u xs.length (xs.map u8)) (nu : ∀ k, Mem.own u k → w3.heap.size ≤ k) :
    Bk w7 b T ((cs.set o lv2).set (o + 1) wv2) o (K ++ [⟨v, u, xs⟩]) (fun k => R k ∨ w.heap.size ≤ k) (fun k => O k ∨ Mem.own v k) lv2 wv2 hv ∧ Upd (fun k => k = b ∨ R k) w w7 := by
  have hU : Upd (fun k => k = b ∨ Mem.own lv k ∨ Mem.own wv k) w w7 := (hu3.mono (fun k _ e => e.elim .inl (fun e => .inr (.inl e)))).trans (hu7.mono (fun k _ e => .inl (e.elim .inl (fun e => .inr (.inr e)))))
  have h8 : ∀ {x : Value} {n : Nat} {vs : List Value}, w.ownsRow 0 5 1 x n vs → ∀ k, Mem.own x k → ¬ (k = b ∨ Mem.own lv k ∨ Mem.own wv k) := fun hx k hk e => by
    rcases e with e | e | e
    · exact own_far h.row hT8 hx hk e
    · exact own_off hx h.lrow hk e
    · exact own_off hx h.wrow hk e
  have l0 : o < cs.length := (List.getElem?_eq_some_iff.1 h.c0).1
  have l1 : o + 1 < cs.length := (List.getElem?_eq_some_iff.1 h.c1).1
  refine ⟨⟨row7, ?_, ?_, ?_, ?_, ?_, ?_, ?_, ?_, ?_, ?_, ?_⟩, hU.mono (fun k _ e => ?_)⟩
  · rw [List.getElem?_set_ne (by omega), List.getElem?_set_self l0]
  · rw [List.getElem?_set_self (by rw [List.length_set]; exact l1)]
  · rw [List.getElem?_set_ne (by omega), List.getElem?_set_ne (by omega)]; exact h.c2
  · rw [List.getElem?_set_ne (by omega), List.getElem?_set_ne (by omega)]; exact h.c3
  · rw [List.map_append]
    refine l3.upd hu7 (fun k hk e => ?_)
    rcases e with e | e
    · exact off_far row3 hT l3 hk e
    · rcases n3 k hk with h1 | h1
      · exact h.lw k h1 e
      · have := (h.wrow.lt e).1; omega
  · rw [List.map_append]; exact r7
  · intro e he
    rcases List.mem_append.1 he with he | he
    · have := h.ents e he
      exact ⟨IntsW.own_upd this.own hU (h8 this.own), IntsW.own_upd this.was hU (h8 this.was), fun k hk => .inl (this.inO k hk), fun k hk => .inl (this.inR k hk), this.len⟩
    · rw [List.mem_singleton.1 he]
      exact ⟨IntsW.own_upd hown hU (h8 hown), u7, fun k hk => .inr hk, fun k hk => .inr (Nat.le_trans hu3.size (nu k hk)), hlen⟩
  · intro k hk
    exact (n3 k hk).elim (fun h1 => .inl (h.inL k h1)) .inr
  · intro k hk
    exact (n7 k hk).elim (fun h1 => .inl (h.inW k h1)) (fun h1 => .inr (Nat.le_trans hu3.size h1))
  · intro k hk hk'
    rcases n7 k hk' with h1 | h1
    · rcases n3 k hk with h2 | h2
      · exact h.lw k h2 h1
      · have := (h.wrow.lt h1).1; omega
    · have := (l3.lt hk).1; omega
  · refine List.pairwise_append.2 ⟨h.apart, List.pairwise_singleton _ _, fun e he f hf k hk hk' => ?_⟩
    rw [List.mem_singleton.1 hf] at hk'
    exact hnew k hk' ((h.ents e he).inO k hk)
  · rcases e with e | e | e
    · exact .inl e
    · exact .inr (h.inL k e)
    · exact .inr (h.inW k e)

/-- what is stored is what stood there -/
theorem setCell_self {w : World} {a : Addr} {v : Value} (h : w.cell? a = some v) : w.setCell a v = w := by
  have e : (w.setCell a v).heap = w.heap := by
    apply Array.ext_getElem?
    intro i
    unfold World.setCell
    simp only [Array.getElem?_modify]
    unfold World.cell? at h
    by_cases hi : a.block = i
    · subst hi
      rw [if_pos rfl]
      cases hb : w.heap[a.block]? with
      | none => rfl
      | some ob =>
        rw [hb] at h
        cases ob with
        | cells c t fr =>
          simp only at h
          cases hs : a.spot.isSome
          · rw [hs] at h
            simp at h
            simp
            apply Array.ext_getElem?
            intro j
            rw [Array.getElem?_setIfInBounds]
            split
            · rename_i hj; subst hj; split
              · exact h.symm
              · rename_i hj; rw [Array.getElem?_eq_none (by omega)]
            · rfl
          · simp
        | _ => rfl
    · rw [if_neg hi]
  cases w
  unfold World.setCell at e ⊢
  simp only at e ⊢
  rw [e]

theorem run_append_bytes (w : World) (ty : TypeId) (v : Value) (l t : List UInt8) (hown : w.ownsRow 0 5 1 v l.length (l.map u8)) (sv : Value) (hsl : Sl w sv t)
    (h63 : l.length + t.length ≤ maxLen) (hbytes : l.length + t.length ≤ 140737488355328) :
    ∃ v' w', (Builtin.append_ #[22, 22] ty #[v, sv]).run Tryd.prog w = .ok v' w' ∧ w'.ownsRow 0 5 1 v' (l ++ t).length ((l ++ t).map u8) ∧ w.grownBy w' v.ownBlock ∧ (v'.ownBlock = v.ownBlock ∨ v'.ownBlock = some w.heap.size) := by
  obtain ⟨i0, hi, hz0, hz1, hz2⟩ := info_parts info8
  obtain ⟨ao, cap, rfl, h1, h2, h3, h4⟩ := hsl
  cases ao with
  | none =>
    obtain rfl := h3 rfl
    have h0 : t = [] := List.eq_nil_of_length_eq_zero (by omega)
    subst h0
    exact ⟨v, w, run_append_owned_none (P := Tryd.prog) (w := w) 0 22 ty 5 i0 1 Tryd.underlying22 hi v _ _ hown, by simpa using hown, World.grownBy.refl _ _, .inl rfl⟩
  | some ad =>
    obtain ⟨hsp, hcell⟩ := h4 ad rfl
    obtain ⟨v', w', hr, a1, a2, _, a4⟩ := run_append_own_at (P := Tryd.prog) w 0 22 ty 5 i0 (.int .u8 0) 1 1 Tryd.underlying22 hi hz0 hz1 hz2 rfl (by decide) v _ _ hown ad t.length cap (t.map u8) (by simp) (fun j u hu => by
      have hj : j < t.length := by have := (List.getElem?_eq_some_iff.1 hu).1; simpa using this
      have e : u = u8 (t.getD j 0) := by simp [hj] at hu; simp [List.getD, hj, hu]
      rw [e]
      exact hcell j hj) (fun u hu => by obtain ⟨_, _, rfl⟩ := List.mem_map.1 hu; rfl) h63 (by omega) (Nat.zero_le _)
    exact ⟨v', w', hr, by rw [List.length_append, List.map_append]; exact a1, a2, a4⟩

/-- append([]byte(nil), p...) as a step of a region that draws: a copy in new memory -/
theorem step_copy_nil (w : World) {ops : Array Oper} {o : Oper} {a : Act} {K : Act → World → Prop} {Q : Exit → Act → World → Prop} {E : Prop} (hgd : o.guard = none) (sl x : Operand)
    (ho : o.op = .call { callee := .builtin .append, args := #[sl, x], argTypes := #[22, 22] }) (hs : a.eval sl = .slice none 0 0)
    (t : List UInt8) (sv : Value) (hx : a.eval x = sv) (hsl : Sl w sv t) (hb : t.length ≤ 140737488355328)
    (m : Nat) (hm : m = t.length)
    (hK : ∀ ao cap w', Hid (w'.ownsRow 0 5 1 (.slice ao m cap) m (t.map u8)) → Hid (Upd (fun _ => False) w w') → Hid (∀ k, Mem.own (.slice ao m cap) k → w.heap.size ≤ k) → K (a.put o.dst (.slice ao m cap)) w') : if Region.wanted o (yielded ops a.tmps) = true then Oper.wp Tryd.prog o a w K Q else E := by
  have hw : Region.wanted o (yielded ops a.tmps) = true := by simp [Region.wanted, hgd]
  rw [if_pos hw]
  obtain ⟨v', w', hrun, r1, r2, r3⟩ := run_append_bytes w o.type (.slice none 0 0) [] t (own_nil w) sv hsl (by unfold maxLen; simp; omega) (by simp; omega)
  unfold Oper.wp
  simp [execOp, ho, resolve, invoke, builtin, hs, hx, hrun, Result.andThen]
  rw [List.nil_append] at r1
  obtain ⟨ao, cap, rfl⟩ := IntsW.slice_form r1
  subst hm
  exact hK ao cap w' r1 (Upd.grown r2 (fun k hk => by simp [Value.ownBlock] at hk)) (fun k hk => by
    rcases r3 with h | h
    · unfold Mem.own at hk; rw [h] at hk; simp [Value.ownBlock] at hk
    · unfold Mem.own at hk; rw [h] at hk; cases hk; exact Nat.le_refl _)
end Go.Proofs.YtgfdnljblfkhkabDoor.BookM
