/-
  OctetBack's walk: an append of one step; what its loops keep.
-/
import Derived.Test.YtcdgimapkbaboaaBackL
import Derived.Test.YtcdgimapkbaboaaBeyW
import Derived.Test.YtcdgimapkbaboaaForthW
namespace Go.Proofs.Ytcdgimapkbaboaa.BackW
open Go.RowKit Mem RowW PutW TakeW FlagW ReaderW ReadB ReadT ReadD ReadG StrW RawW TextsW DigW ForthL LaysW OpenOp ListsB LaysD OpenF BeyW AgainB BackL
open AgainW (ZO zeroO sizeO base base_one)
set_option linter.unusedVariables false
set_option linter.unusedSimpArgs false

theorem infoO : (Try.prog.info? 54).map (fun i => (i.zero, i.size, i.bytes)) = some (some (.agg ZO), 12, 168) := by kernel_rfl
/-- append of one step to a row of steps of the call's own -/
theorem wpList_append_op (w : World) {ops : Array Oper} {rest : List Oper} {o : Oper} {a : Act} {Q : Exit → Act → World → Prop} (hgd : o.guard = none) (sl x : Operand)
    (ho : o.op = .call { callee := .builtin .append, args := #[sl, x], argTypes := #[41, 41] })
    (v : Value) (n : Nat) (xs news : List Value) (hs : a.eval sl = v) (hown : w.ownsRow 0 54 12 v n xs) (g c : Nat) (hx : a.eval x = .slice (some ⟨g, 0, none⟩) 1 c) (hg : w.heap[g]? = some (.cells news.toArray 54 (0, 0))) (hnl : news.length = 12) (hu : ∀ u ∈ news, u.oneCell' = true)
    (hn : n + 1 ≤ 4294967296)
    (h : ∀ ao cap w', Hid (w'.ownsRow 0 54 12 (.slice ao (n + 1) cap) (n + 1) (xs ++ news)) → Hid (w.grownBy w' v.ownBlock) → Hid ((Value.slice ao (n + 1) cap).ownBlock = v.ownBlock ∨ (Value.slice ao (n + 1) cap).ownBlock = some w.heap.size) → wpList Try.prog ops Q rest (a.put o.dst (.slice ao (n + 1) cap)) w') :
    wpList Try.prog ops Q (o :: rest) a w := by
  obtain ⟨i0, hi, hz0, hz1, hz2⟩ := info_parts infoO
  refine wpList_append_own_at w hgd sl x 41 ho 0 54 i0 (.agg ZO) 12 168 Try.underlying41 hi hz0 hz1 hz2 rfl (by decide) v _ _ hs hown ⟨g, 0, none⟩ 1 c news hx (by omega) (fun j v' hv => ?_) hu (by unfold maxLen; omega) (by omega) (Nat.zero_le _) (fun v' w' a1 a2 _ a4 => ?_)
  · rw [RowW.add_none, Nat.zero_add, cell_of_row _ _ _ _ _ _ hg]
    simpa using hv
  · obtain ⟨ao, cap, rfl⟩ := slice_form a1
    exact h ao cap w' a1 a2 a4
def many' (o : OpD) : Int := if o.k = 6 then (o.ds.length : Int) else (o.xs.length : Int)
structure LaidOne (w : World) (cs : List Value) (o : OpD) : Prop where
  h : OpH w cs o (fun k => k < w.heap.size)
  len : cs.length = 12
  one : ∀ u ∈ cs, u.oneCell' = true
  err : errD o = 0
  many : o.many = many' o
  h32 : ∀ d ∈ o.ds, d.length = 32
def LaidOk (w : World) (ls : List OpD) (cl : List (List Value)) (od : OpD) : Prop := cl.length = ls.length ∧ ∀ j, j < ls.length → LaidOne w (cl.getD j []) (ls.getD j od)
theorem LaidOk.snoc {w : World} {ls : List OpD} {cl : List (List Value)} {od o : OpD} {cs : List Value} (h : LaidOk w ls cl od) (h1 : LaidOne w cs o) : LaidOk w (ls ++ [o]) (cl ++ [cs]) od := by
  refine ⟨by simp [h.1], fun j hj => ?_⟩
  rw [List.length_append, List.length_singleton] at hj
  rcases Nat.lt_or_ge j ls.length with hlt | hge
  · rw [List.getD_eq_getElem?_getD, List.getElem?_append_left (by rw [h.1]; exact hlt), List.getD_eq_getElem?_getD, List.getElem?_append_left hlt, ← List.getD_eq_getElem?_getD, ← List.getD_eq_getElem?_getD]
    exact h.2 j hlt
  · obtain rfl : j = ls.length := by omega
    rw [List.getD_eq_getElem?_getD, List.getElem?_append_right (by rw [h.1]; exact Nat.le_refl _), h.1, List.getD_eq_getElem?_getD, List.getElem?_append_right (Nat.le_refl _), Nat.sub_self]
    exact h1
theorem totS_ge (ss : List ByteArray) : ss.length ≤ totS ss := by
  induction ss with
  | nil => simp [totS]
  | cons s ss ih =>
    have e : totS (s :: ss) = s.size + 1 + totS ss := by simp [totS]
    rw [e, List.length_cons]
    omega
/-- the news of a row of steps -/
def allD (ls : List OpD) : List UInt8 := cat (ls.map newsD)
theorem allD_snoc (ls : List OpD) (o : OpD) : allD (ls ++ [o]) = allD ls ++ newsD o := by unfold allD; simp [cat]
theorem allD_take (ls : List OpD) (od : OpD) (j : Nat) (h : j < ls.length) : allD (ls.take (j + 1)) = allD (ls.take j) ++ newsD (ls.getD j od) := by
  rw [List.take_succ_eq_append_getElem h, allD_snoc, List.getD_eq_getElem?_getD, List.getElem?_eq_getElem h]
  rfl
theorem allD_seg (ls : List OpD) (od : OpD) (j : Nat) (h : j < ls.length) : seg (allD ls) (allD (ls.take j)).length (newsD (ls.getD j od)).length = newsD (ls.getD j od) ∧ (allD (ls.take j)).length + (newsD (ls.getD j od)).length ≤ (allD ls).length := by
  have e : allD ls = allD (ls.take j) ++ (newsD (ls.getD j od) ++ allD (ls.drop (j + 1))) := by
    have h1 : ls = ls.take j ++ (ls.getD j od :: ls.drop (j + 1)) := by
      rw [List.getD_eq_getElem?_getD, List.getElem?_eq_getElem h]
      simp
    have h2 : allD ls = allD (ls.take j ++ (ls.getD j od :: ls.drop (j + 1))) := congrArg allD h1
    rw [h2]
    unfold allD
    simp [cat]
  constructor
  · conv => lhs; rw [e]
    unfold seg
    rw [List.drop_left, List.take_left]
  · conv => rhs; rw [e]
    simp only [List.length_append]
    omega
theorem news_cost (o : OpD) (h32 : ∀ d ∈ o.ds, d.length = 32) : (newsD o).length ≤ 2 * costD o := by
  have hc := cat_len32 o.ds h32
  have hf : (cat (o.ss.map form)).length ≤ 2 * totS o.ss := by
    have key : ∀ ss : List ByteArray, (cat (ss.map form)).length ≤ 2 * totS ss := by
      intro ss
      induction ss with
      | nil => simp [cat]
      | cons s ss ih =>
        have e : (cat ((s :: ss).map form)).length = (form s).length + (cat (ss.map form)).length := by simp [cat]
        have e2 : totS (s :: ss) = s.size + 1 + totS ss := by simp [totS]
        have e3 : (form s).length = 2 + s.size := by unfold form; rw [List.length_append, be_length]; rfl
        rw [e, e2, e3]
        omega
    exact key o.ss
  unfold newsD costD
  repeat' split
  all_goals (try simp only [be_length, List.length_append, List.length_cons, List.length_nil, forms, hc])
  all_goals omega
/-- behind k steps of the script -/
def LB1 (w w2 : World) (os : List OpD) (od : OpD) (wb : Nat) (lv i : Value) (wr : World) : Prop :=
  ∃ (k : Nat) (v : Value) (ls : List OpD) (cl : List (List Value)), k ≤ os.length ∧ i = .int .i64 k ∧ Wr wr wb v (allD ls) ∧ (∀ j, own v j → w2.heap.size ≤ j) ∧ wr.ownsRow 0 54 12 lv ls.length cl.flatten ∧ (∀ j, own lv j → w2.heap.size ≤ j) ∧
    LaidOk w ls cl od ∧ (allD ls).length ≤ 4 + 2 * costs (os.take k) ∧ ls.length ≤ k + 1 ∧ Upd (fun j => j = wb) w2 wr
theorem costs_le (os : List OpD) (k : Nat) : costs (os.take k) ≤ costs os := by
  have h : costs os = costs (os.take k) + costs (os.drop k) := by
    unfold costs
    rw [← List.sum_append, ← List.map_append, List.take_append_drop]
  omega
theorem costs_len (os : List OpD) : 100 * os.length ≤ costs os := by
  induction os with
  | nil => simp [costs]
  | cons o os ih =>
    have e : costs (o :: os) = costD o + costs os := by simp [costs]
    rw [e, List.length_cons]
    unfold costD
    omega
theorem OpH.upd {w w' : World} {cs : List Value} {o : OpD} {O : Nat → Prop} (h : OpH w cs o O) (hu : Upd (fun _ => False) w w') : OpH w' cs o O := by
  obtain ⟨⟨x1, dv, x6, pv, lv, rfl, ⟨dao, dcap, rfl, hd⟩, hp, hpo, ⟨lao, lcap, rfl, hs⟩⟩, hn⟩ := h
  exact ⟨⟨x1, _, x6, pv, _, rfl, ⟨dao, dcap, rfl, fun hne => (hd hne).upd hu (fun _ _ => id)⟩, hp.upd hu (fun _ _ _ => id), hpo, ⟨lao, lcap, rfl, fun hne => ⟨(hs hne).1.upd hu (fun _ _ => id), (hs hne).2⟩⟩⟩, hn⟩
theorem OpH.mono {w : World} {cs : List Value} {o : OpD} {O O' : Nat → Prop} (h : OpH w cs o O) (ho : ∀ k, O k → O' k) : OpH w cs o O' := by
  obtain ⟨⟨x1, dv, x6, pv, lv, rfl, ⟨dao, dcap, rfl, hd⟩, hp, hpo, ⟨lao, lcap, rfl, hs⟩⟩, hn⟩ := h
  refine ⟨⟨x1, _, x6, pv, _, rfl, ⟨dao, dcap, rfl, fun hne => ?_⟩, hp, fun hne k hk => ho k (hpo hne k hk), ⟨lao, lcap, rfl, fun hne => ⟨(hs hne).1, fun k hk => ho k ((hs hne).2 k hk)⟩⟩⟩, hn⟩
  obtain ⟨a, c, e, h1, h2, h3, h4, h5⟩ := hd hne
  exact ⟨a, c, e, h1, h2, h3, h4, fun a' ha => ⟨(h5 a' ha).1, fun hp => ho _ ((h5 a' ha).2.1 hp), (h5 a' ha).2.2⟩⟩
theorem OpH.many {w : World} {cs : List Value} {o : OpD} {O : Nat → Prop} (h : OpH w cs o O) (m : Int) : OpH w (cs.set 3 (.int .i64 m)) { o with many := m } O := by
  obtain ⟨⟨x1, dv, x6, pv, lv, rfl, hd, hp, hpo, hs⟩, hn⟩ := h
  exact ⟨⟨x1, dv, x6, pv, lv, rfl, hd, hp, hpo, hs⟩, hn⟩
end Go.Proofs.Ytcdgimapkbaboaa.BackW
