/-
  Fork; Write of a slice that may be empty wherever it points; append of such a slice; a [][]byte that came in.
-/
import Derived.Test.YtiglaeipbcmlnaaDoorSplitL
import Derived.Test.YtiglaeipbcmlnaaDoorOpenW
import Derived.Test.YtiglaeipbcmlnaaDoorSumsW
import Derived.Deep.Slices
namespace Go.Proofs.YtiglaeipbcmlnaaDoor.SplitM
open Go.RowKit Sha TurnW Mem RowW SpreadW MixW HashM CopyW WriteW WriteN EndW SumH NewW EqW BookW SplitL
set_option linter.unusedVariables false
set_option linter.unusedSimpArgs false

set_option maxHeartbeats 2000000 in
set_option maxRecDepth 100000 in
theorem empty_any (b : Nat) (l : List UInt8) (ao : Option Addr) (cap : Nat) (w : World) (hh : Hs w b l) (hlen : l.length < 1152921504606846976) :
    Calls Tryd.prog 49 #[.pointer (some ⟨b, 0, none⟩), .slice ao 0 cap] w fun e w' => e = .returned (.tuple #[]) ∧ Hs w' b l ∧ Upd (fun k => k = b) w w' := by
  obtain ⟨q, t, blk, hl, hq, ht, hbt, hQ⟩ := hh
  obtain ⟨L, hL⟩ : ∃ L, L = l.length := ⟨_, rfl⟩
  have hLm : L % 64 = t.length := by rw [hL, hl, List.length_append]; omega
  rw [← hL] at hQ hlen
  have c72 : w.cell? ⟨b, 72, none⟩ = some (.int .u64 (L : Int)) := by rw [hQ.2.cell, hcells_72 _ _ _ hQ.1]
  have f72 := hQ.2.frozen 72
  have e1 : IntKind.u64.wrap (L : Int) = (L : Int) := by rw [IntKind.wrap_u64]; omega
  have e3 : (L : Int) % 64 = (t.length : Int) := by omega
  have e4 : (L : Int).tmod 64 = (t.length : Int) := by rw [Int.tmod_eq_emod_of_nonneg (by omega)]; exact e3
  have e5 : IntKind.i64.wrap (t.length : Int) = t.length := IntWalk.i64_in _ (by omega)
  have e6 : IntKind.u64.wrap (t.length : Int) = t.length := by rw [IntKind.wrap_u64]; omega
  have HR : Hid (Row (w.setCell ⟨b, 72, none⟩ (.int .u64 (L : Int))) b 104 (hcells (stq q) blk L)) := by
    show Row _ _ _ _
    have h := hQ.2.set 72 (.int .u64 (L : Int))
    rwa [hcells_set _ _ _ _ hQ.1] at h
  have HU : Hid (Upd (fun k => k = b) w (w.setCell ⟨b, 72, none⟩ (.int .u64 (L : Int)))) := Upd.put (S := fun k => k = b) (Upd.refl _ _) b 72 (.inl rfl) _
  have HH := Lib.hid (show ∀ w', Row w' b 104 (hcells (stq q) blk L) → Hs w' b l from fun w' hr => ⟨q, t, blk, hl, hq, ht, hbt, hQ.1, by rw [← hL]; exact hr⟩)
  have H73 : Hid ((hcells (stq q) blk L).length = 73) := hcells_len _ _ _ hQ.1
  have Hlen := Lib.hid hlen
  have Hl := Lib.hid hl
  have Hbt := Lib.hid hbt
  have HL := Lib.hid hL
  clear hl hq hbt hQ hlen hLm hL
  have ht64 : (t.length : Int) < 64 := by omega
  have ht64' : (t.length : Int) ≤ 64 := by omega
  have hsp : ∀ o, splice (hcells (stq q) blk L) o [] = hcells (stq q) blk L := fun o => by simp [splice]
  have HSP := Lib.hid hsp
  clear hsp
  by_cases h0 : 0 < t.length
  · have ht0' : (0 : Int) < (t.length : Int) := by omega
    go_enter Tryd.func49, Tryd.ntmps49
    go_wp2_with ((with_reducible refine wpList_copy_new (o := ⟨some 30, _, _, _, _, _⟩) ?_ (.tmp 28) (.tmp 29) 25 25 ?_ 5 Tryd.underlying25 info8s (some ⟨b, 8 + t.length, none⟩) ao (64 - t.length) (64 - t.length) 0 cap ?_ ?_ b (8 + t.length) _ _ HR.out [] ?_ ?_ ?_ (fun _ h => absurd h (by simp)) ?_); rfl; rfl; rfl; rfl; (simp); (exact fun hp => absurd hp (by simp)); (rw [H73.out, List.length_nil]; omega); intro w1 HR1 HU1)
    refine bodyPost_ret (results_none rfl _ _ _) rfl ?_
    exact ⟨rfl, HH.out _ (by have := HR1.out; rwa [HSP.out] at this), HU.out.trans (HU1.out.mono (fun _ _ h => .inl h))⟩
  · have ht00 : t.length = 0 := by omega
    simp only [ht00] at *
    go_enter Tryd.func49, Tryd.ntmps49
    go_wp2
    refine wp_loop_rounds 1 ?_
    rw [rounds_succ]
    go_wp2_with ((with_reducible refine wpList_copy_new (o := ⟨some 62, _, _, _, _, _⟩) ?_ (.tmp 60) (.tmp 61) 25 25 ?_ 5 Tryd.underlying25 info8s (some ⟨b, 8, none⟩) ao 64 64 0 cap ?_ ?_ b 8 _ _ HR.out [] ?_ ?_ ?_ (fun _ h => absurd h (by simp)) ?_); rfl; rfl; rfl; rfl; (simp); (exact fun hp => absurd hp (by simp)); (rw [H73.out, List.length_nil]; omega); intro w1 HR1 HU1)
    go_end0
    exact ⟨rfl, HH.out _ (by have := HR1.out; rwa [HSP.out] at this), HU.out.trans (HU1.out.mono (fun _ _ h => .inl h))⟩


theorem write_el (b : Nat) (v : Value) (l p : List UInt8) (w : World) (hh : Hs w b l) (hp : El w v p) (hv : p ≠ [] → ¬ own v b) (hb : b ≠ 0) (hk : Kw w) (hlen : l.length + p.length < 1152921504606846976) :
    Calls Tryd.prog 49 #[.pointer (some ⟨b, 0, none⟩), v] w fun e w' => e = .returned (.tuple #[]) ∧ Hs w' b (l ++ p) ∧ Upd (fun k => k = b) w w' := by
  by_cases h : p = []
  · subst h
    obtain ⟨ao, cap, rfl, _⟩ := hp
    rw [List.append_nil]
    exact empty_any b l ao cap w hh (by simpa using hlen)
  · obtain ⟨_, _, _, _, _, _, hs⟩ := hp
    exact write_any b v l p w hh (hs h) (hv h) hb hk hlen

set_option maxHeartbeats 2000000 in
set_option maxRecDepth 100000 in
theorem fork_any (b : Nat) (l : List UInt8) (w : World) (hh : Hs w b l) :
    Calls Tryd.prog 53 #[.pointer (some ⟨b, 0, none⟩)] w (fun e w' => e = .returned (.pointer (some ⟨w.heap.size, 0, none⟩)) ∧ Hs w' w.heap.size l ∧ Upd (fun _ => False) w w') := by
  have Hh := Lib.hid hh
  have hbs := hh.lt
  clear hh
  have HA : Hid (∃ cs : List Value, Row w b 104 cs ∧ cs.length = 73 ∧ (∀ v ∈ cs, v.oneCell' = true) ∧ ∀ w' g, Row w' g 104 cs → Hs w' g l) := by
    obtain ⟨q, t, blk, h1, h2, h3, h4, h5, h6⟩ := Hh.out
    refine ⟨_, h6, hcells_len _ _ _ h5, ?_, fun w' g h => ⟨q, t, blk, h1, h2, h3, h4, h5, h⟩⟩
    intro v hv
    unfold hcells at hv
    rcases List.mem_append.1 hv with hv | hv
    · obtain ⟨x, _, rfl⟩ := List.mem_map.1 hv
      rfl
    · rcases List.mem_append.1 hv with hv | hv
      · exact one_of _ v hv
      · rw [List.mem_singleton.1 hv]; rfl
  obtain ⟨cs, hr, hc73, hc1, hcH⟩ := HA.out
  have HR := Lib.hid hr
  have HX1 : Hid ((cs.toArray).all (·.oneCell') = true) := by show _ = _; simpa using hc1
  have HXs : Hid ((Tryd.prog.info? 104).map (·.size) = some cs.toArray.size) := by show _ = _; rw [size73]; simp [hc73]
  have Hc73 := Lib.hid hc73
  have HcH := Lib.hid hcH
  clear hr hc73 hc1 hcH HA
  obtain ⟨X, hX⟩ : ∃ X, X = cs.toArray := ⟨_, rfl⟩
  rw [← hX] at HX1 HXs
  have HR' : Hid (w.heap[b]? = some (.cells X 104 (0, 0))) := by show _ = _; rw [hX]; exact HR.out
  have HX := Lib.hid hX
  clear hX
  have hz := zeroH
  go_enter Tryd.func53, Tryd.ntmps53
  go_wp2_with (first
    | ((with_reducible refine wpList_load_row (o := ⟨some 6, _, _, _, _, _⟩) ?_ _ (.tmp 5) ?_ b ?_ 104 X (0, 0) _ ?_ Tryd.underlying104 ?_ HXs.out ?_); rfl; rfl; rfl; (exact HR'.out); rfl)
    | ((with_reducible refine wpList_store_new (o := ⟨none, .store 104 (.tmp 3) (.tmp 6), _, _, _, _⟩) ?_ _ (.tmp 3) (.tmp 6) ?_ w.heap.size X ?_ ?_ 104 AH ?_ HXs.out ?_ HX1.out ?_); rfl; rfl; rfl; rfl; (exact heap_alloc_new _ _); (rw [HX.out]; simp [AH, Hc73.out]); intro w2 Hg2 Hu2))
  have hu2 : Upd (fun _ => False) w w2 := ((Upd.refl _ w).alloc _).trans (Hu2.out.mono (fun k hk e => .inr (by omega)))
  have hH2 : Hs w2 w.heap.size l := HcH.out w2 _ (by have h := Hg2.out; rw [HX.out] at h; exact h)
  go_ret
  exact ⟨rfl, hH2, hu2⟩

/-- append(v, p...): v a row of the call's own, p a slice that may be empty wherever it points -/
theorem wpList_append_el (w : World) {ops : Array Oper} {rest : List Oper} {o : Oper} {a : Act} {Q : Exit → Act → World → Prop} (hgd : o.guard = none) (sl x : Operand)
    (ho : o.op = .call { callee := .builtin .append, args := #[sl, x], argTypes := #[25, 25] })
    (v : Value) (n : Nat) (l t : List UInt8) (hs : a.eval sl = v) (hn : n = l.length) (hown : w.ownsRow 0 5 1 v n (l.map u8)) (sv : Value) (hx : a.eval x = sv) (hsl : El w sv t)
    (h63 : l.length + t.length ≤ maxLen) (hbytes : l.length + t.length ≤ 140737488355328) (m : Nat) (hm : m = l.length + t.length)
    (h : ∀ ao cap w', Hid (w'.ownsRow 0 5 1 (.slice ao m cap) m ((l ++ t).map u8)) → Hid (w.grownBy w' v.ownBlock) → Hid ((Value.slice ao m cap).ownBlock = v.ownBlock ∨ (Value.slice ao m cap).ownBlock = some w.heap.size) → wpList Tryd.prog ops Q rest (a.put o.dst (.slice ao m cap)) w') :
    wpList Tryd.prog ops Q (o :: rest) a w := by
  subst hn hm
  have key : ∀ v' w', Hid (w'.ownsRow 0 5 1 v' (l ++ t).length ((l ++ t).map u8)) → Hid (w.grownBy w' v.ownBlock) → Hid (v'.ownBlock = v.ownBlock ∨ v'.ownBlock = some w.heap.size) → wpList Tryd.prog ops Q rest (a.put o.dst v') w' := by
    intro v' w' h1 h2 h3
    have h1' := h1.out
    rw [List.length_append] at h1'
    obtain ⟨ao, cap, rfl⟩ := SumsW.own_form h1'
    exact h ao cap w' h1' h2 h3
  by_cases ht : t = []
  · subst ht
    obtain ⟨ao, cap, rfl, _, hcm, hnone, _⟩ := hsl
    obtain ⟨i0, hi, hz0, hz1, hz2⟩ := info_parts info8
    cases ao with
    | none =>
      by_cases hc : cap = 0
      · subst hc
        exact wpList_append_own_none hgd sl x 25 ho 0 5 i0 1 Tryd.underlying25 hi v _ _ hs hown hx (key v w (show World.ownsRow _ _ _ _ _ _ _ by simpa using hown) (World.grownBy.refl _ _) (.inl rfl))
      · exact absurd (hnone rfl) hc
    | some ad =>
      refine wpList_append_own_at w hgd sl x 25 ho 0 5 i0 (.int .u8 0) 1 1 Tryd.underlying25 hi hz0 hz1 hz2 rfl (by decide) v _ _ hs hown ad 0 cap [] hx (by simp) (fun j u hu => by simp at hu) (fun u hu => by simp at hu) h63 (by simpa using hbytes) (Nat.zero_le _) (fun v' w' a1 a2 _ a4 => key v' w' ?_ a2 a4)
      show World.ownsRow _ _ _ _ _ _ _
      simpa using a1
  · obtain ⟨_, _, _, _, _, _, hsl'⟩ := hsl
    exact wpList_append_bytes w hgd sl x ho 0 v l t hs hown sv hx (hsl' ht) h63 hbytes (Nat.zero_le _) key
end Go.Proofs.YtiglaeipbcmlnaaDoor.SplitM
