/-
  Appending to a Writer's bytes: a string, and any slice of bytes; where the new row lies. octet.bound, Writer.text, Text, Bytes, Raw.
-/
import Derived.Test.YtcdgimapkbaboaaWrU
import Derived.Lib.AppendStr
import Derived.Lib.MinMax
import Derived.Maps.AppendAt
import Derived.Laws.AppendOwnNone
namespace Go.Proofs.Ytcdgimapkbaboaa.StrW
open Go.RowKit Mem Width PutW WriterW ReaderW NamesW
set_option linter.unusedVariables false

/-- where a row lies behind an append of a string -/
theorem str_where {P : Program} (w : World) (base : Nat) (t u ty e : TypeId) (i : TypeInfo) (ht : P.underlying t = some (.slice e)) (hu : P.underlying u = some .string) (hi : P.info? e = some i) (hz : i.zero = some (.int .u8 0))
    (hsize : i.size = 1) (hby : i.bytes = 1) (v : Value) (n : Nat) (xs : List Value) (hown : w.ownsRow base e 1 v n xs) (s : ByteArray) (h63 : n + s.size ≤ maxLen) (hbytes : n + s.size ≤ 140737488355328)
    {v' : Value} {w' : World} (hr : (Builtin.append_ #[t, u] ty #[v, .string s]).run P w = .ok v' w') (hnil : v' = .slice none 0 0 ↔ v = .slice none 0 0 ∧ s.size = 0) :
    v'.ownBlock = v.ownBlock ∨ v'.ownBlock = some w.heap.size := by
  have hsmall : n + s.size ≤ 9223372036854775807 := by simp only [maxLen] at h63; omega
  have hxl : xs.length = n := by simpa using hown.1
  rcases hown.2 with ⟨rfl, rfl⟩ | ⟨g, cap, cur, rfl, hbg, hg, hnc, hcm, hcs, htake⟩
  · by_cases hm : s.size = 0
    · left; rw [hnil.2 ⟨rfl, hm⟩]
    · have hr2 := run_append_nil_string (P := P) w t u ty e i (.int .u8 0) ht hu hi hz s (by omega) (by omega) (by rw [hby]; omega)
      rw [hr] at hr2
      cases hr2
      exact .inr rfl
  · by_cases hroom : n + s.size ≤ cap
    · have hcs' : cur.size = cap := by simpa using hcs
      have hr2 := Lib.run_append_room_string (P := P) w t u ty e i ht hu hi hsize g n cap cur hg s hroom (by omega)
      rw [hr] at hr2
      cases hr2
      exact .inl rfl
    · have holds : ∀ j u, xs[j]? = some u → w.cell? ((⟨g, 0, none⟩ : Addr).add j) = some u := hown.cells (g := g) rfl
      have hr2 := Lib.run_append_grow_string (P := P) w t u ty e i (.int .u8 0) ht hu hi hz ⟨g, 0, none⟩ n cap xs (by rw [hsize]; simpa using hxl) holds s (by omega) (by omega) (by rw [hby]; exact growslice_fits (by omega) (by omega))
      rw [hr] at hr2
      cases hr2
      exact .inr rfl

theorem wpList_append_str {P : Program} (w : World) {ops : Array Oper} {rest : List Oper} {o : Oper} {a : Act} {Q : Exit → Act → World → Prop} (hgd : o.guard = none) (sl x : Operand) (t u : TypeId)
    (ho : o.op = .call { callee := .builtin .append, args := #[sl, x], argTypes := #[t, u] })
    (base : Nat) (e : TypeId) (i : TypeInfo) (ht : P.underlying t = some (.slice e)) (hu : P.underlying u = some .string) (hi : P.info? e = some i) (hz : i.zero = some (.int .u8 0))
    (hsize : i.size = 1) (hby : i.bytes = 1)
    (v : Value) (n : Nat) (xs : List Value) (hs : a.eval sl = v) (hown : w.ownsRow base e 1 v n xs) (s : ByteArray) (hx : a.eval x = .string s)
    (h63 : n + s.size ≤ maxLen) (hbytes : n + s.size ≤ 140737488355328) (hbase : base ≤ w.heap.size)
    (h : ∀ v' w', w'.ownsRow base e 1 v' (n + s.size) (xs ++ Lib.strCells s) → w.grownBy w' v.ownBlock → (v'.ownBlock = v.ownBlock ∨ v'.ownBlock = some w.heap.size) → wpList P ops Q rest (a.put o.dst v') w') : wpList P ops Q (o :: rest) a w := by
  refine wpList_plain hgd fun K hK => ?_
  obtain ⟨v', w', hr, h2, h3, h4⟩ := Lib.run_append_own_string (P := P) w base t u o.type e i ht hu hi hz hsize hby v n xs hown s h63 hbytes hbase
  have h5 := str_where w base t u o.type e i ht hu hi hz hsize hby v n xs hown s h63 hbytes hr h4
  unfold Oper.wp execOp
  simp only [ho, resolve, invoke, builtin, Sem.run_bind, Sem.run_pure, Result.andThen_ok, List.map_toArray, List.map_cons, List.map_nil, hs, hx, hr]
  exact hK _ _ (h v' w' h2 h3 h5)

theorem strCells_eq (l : List UInt8) : Lib.strCells ⟨l.toArray⟩ = l.map u8 := by simp [Lib.strCells, u8]

/-- A slice value stored back behind an append of any kind. -/
theorem back {wr W w1 : World} {b : Nat} {v1 nv : Value} {l news : List UInt8} {n : Nat} (hb : wr.heap[b]? = some (.cells #[v1] 85 (0, 0))) (hown : wr.ownsRow 0 5 1 v1 l.length (l.map u8))
    (hn : n = l.length + news.length) (hu : Upd (fun _ => False) wr W) (hown1 : w1.ownsRow 0 5 1 nv n (l.map u8 ++ news.map u8)) (hg : W.grownBy w1 v1.ownBlock)
    (hat : nv.ownBlock = v1.ownBlock ∨ nv.ownBlock = some W.heap.size) : Grew b v1 l news wr (w1.setCell ⟨b, 0, none⟩ nv) := by
  subst hn
  have hb1 : w1.heap[b]? = some (.cells #[v1] 85 (0, 0)) := one_kept hb (by decide) hown (fun k hk => hu.block k hk id) hu.size hg
  refine ⟨_, ⟨one_setCell hb1, ?_⟩, upd_append (e := 5) (n := 0) (s := 1) (xs := []) hb hu hg, fun k hk => ?_⟩
  · have := ownsRow_setCell_other hown1 (a := ⟨b, 0, none⟩) (rowNe hb1 (by decide) hown1) nv
    simpa using this
  · rcases hat with h | h
    · left; unfold own at hk ⊢; rw [← h]; exact hk
    · right
      unfold own at hk
      rw [h] at hk
      cases hk
      exact hu.size

theorem row_form {w : World} {base n : Nat} {v : Value} {xs : List Value} (h : w.ownsRow base 5 1 v n xs) : ∃ ao cap, v = .slice ao n cap := by
  rcases h.2 with ⟨rfl, rfl⟩ | ⟨g, cap, cur, rfl, _⟩
  · exact ⟨_, _, rfl⟩
  · exact ⟨_, _, rfl⟩

/-- what a caller's most lets a length be -/
def bnd (most top : Int) : Int := max 0 (min most top)
theorem bound_any (most top : Int) (w : World) : Calls Try.prog 100 #[.int .i64 most, .int .i64 top] w fun e w' => e = .returned (.int .i64 (bnd most top)) ∧ w = w' := by
  go_enter Try.func100, Try.ntmps100
  go_wp2
  go_ret
  exact ⟨rfl, rfl⟩

set_option maxHeartbeats 1000000 in
theorem text_any (b : Nat) (v : Value) (l t : List UInt8) (w : World) (hw : Wr w b v l) (hl : l.length + t.length ≤ 140737488355300) (ht : t.length ≤ 65535) :
    Calls Try.prog 101 #[.pointer (some ⟨b, 0, none⟩), .string ⟨t.toArray⟩] w fun e w' => e = .returned (.tuple #[]) ∧ Grew b v l (be t.length 2 ++ t) w w' := by
  have Hw := Lib.hid hw
  have hsz : (ByteArray.mk t.toArray).size = t.length := by simp [ByteArray.size]
  have Hsz := Lib.hid hsz
  clear hw hsz
  obtain ⟨s, hs⟩ : ∃ s, s = ByteArray.mk t.toArray := ⟨_, rfl⟩
  rw [← hs] at Hsz ⊢
  have Hs := Lib.hid hs
  clear hs
  have hle : s.size ≤ 65535 := by rw [Hsz.out]; exact ht
  have e16 : IntKind.u16.wrap (s.size : Int) = s.size := by rw [IntKind.wrap_u16]; omega
  go_enter Try.func101, Try.ntmps101
  go_wp2_with fail
  refine (put16 b v l _ _ (by omega) (WalkArith.wf_u16 (by omega)) Hw.out (by omega)).mono ?_
  rintro e w1 ⟨rfl, v1, hw1, hu1, ho1⟩
  have hc := cell_of_one hw1.1
  have hblt := lt_of_block hw1.1
  have Hb := Lib.hid hw1.1
  have Hown := Lib.hid hw1.2
  have Hu1 := Lib.hid hu1
  have Ho1 := Lib.hid ho1
  have Hi := Lib.hid (info_parts info8)
  have Hl := Lib.hid (show (l ++ be (s.size : Int) 2).length + s.size ≤ maxLen from by have := Hsz.out; simp [be]; unfold maxLen; omega)
  have Hl2 := Lib.hid (show (l ++ be (s.size : Int) 2).length + s.size ≤ 140737488355328 from by have := Hsz.out; simp [be]; omega)
  clear hw1 hu1 ho1
  go_wp2_with (at_builtin; obtain ⟨i0, hi, hz0, hz1, hz2⟩ := Hi.out; refine wpList_append_str _ rfl _ _ 30 9 rfl 0 5 i0 Try.underlying30 Try.underlying9 hi hz0 hz1 hz2 v1 _ _ rfl Hown.out s rfl Hl.out Hl2.out (Nat.zero_le _) ?_; clear hi hz0 hz1 hz2; intro v2 w2 hown2 hgrow2 hat2; obtain ⟨ao, cap, rfl⟩ := row_form hown2; have hc2 := cell_of_one (one_kept Hb.out (by decide) Hown.out (fun k hk => rfl) (Nat.le_refl _) hgrow2); have hf2 := free_of_one (one_kept Hb.out (by decide) Hown.out (fun k hk => rfl) (Nat.le_refl _) hgrow2); have Hown2 := Lib.hid hown2; have Hgrow2 := Lib.hid hgrow2; have Hat2 := Lib.hid hat2; clear hown2 hgrow2 hat2)
  go_end0
  refine ⟨rfl, ?_⟩
  have hsz := Hsz.out
  have HG := Grew.then Hu1.out Ho1.out (back (news := t) Hb.out Hown.out (by rw [hsz]) (Upd.refl _ _) (by have := Hown2.out; rw [Hs.out, strCells_eq] at this; rw [Hs.out]; exact this) Hgrow2.out Hat2.out)
  rw [hsz] at HG ⊢
  simp only [List.length_append] at HG ⊢
  exact HG

/-- the refusal of a length above a bound -/
def terr (n : Nat) (most top : Int) : Int := if bnd most top < n then 6 else 0

/-- what a sized form of the writer does -/
def Lays (b : Nat) (v : Value) (l news : List UInt8) (err : Int) (w : World) (e : Ending) (w' : World) : Prop :=
  e = .returned (.int .i64 err) ∧ Grew b v l (if err = 0 then news else []) w w'

theorem bnd_lt {n : Nat} {most top : Int} (h : ¬ bnd most top < n) : (n : Int) ≤ top ∨ n = 0 := by unfold bnd at h; omega

theorem Text_any (b : Nat) (v : Value) (l t : List UInt8) (most : Int) (w : World) (hw : Wr w b v l) (hl : l.length + t.length ≤ 140737488355300) (hm : (ByteArray.mk t.toArray).size ≤ maxLen) :
    Calls Try.prog 67 #[.pointer (some ⟨b, 0, none⟩), .string ⟨t.toArray⟩, .int .i64 most] w
      (Lays b v l (be t.length 2 ++ t) (terr t.length most 65535) w) := by
  have Hw := Lib.hid hw
  have hsz : (ByteArray.mk t.toArray).size = t.length := by simp [ByteArray.size]
  by_cases hlt : bnd most 65535 < t.length
  · have HP := Lib.hid (show Lays b v l (be t.length 2 ++ t) (terr t.length most 65535) w (.returned (.int .i64 6)) w by
      have e : terr t.length most 65535 = 6 := if_pos hlt
      rw [e]; exact ⟨rfl, Grew.refl hw⟩)
    have hlt' : bnd most 65535 < ((ByteArray.mk t.toArray).size : Int) := by rw [hsz]; exact hlt
    clear hw hsz hlt
    obtain ⟨s, hs⟩ : ∃ s, s = ByteArray.mk t.toArray := ⟨_, rfl⟩
    rw [← hs] at hlt' hm ⊢
    clear hs
    unfold maxLen at hm
    generalize hbn : bnd most 65535 = bn at *
    have Hbn := Lib.hid hbn
    clear hbn
    go_enter Try.func67, Try.ntmps67
    go_wp2_with fail
    refine (bound_any _ _ _).mono ?_
    rintro e w' ⟨rfl, rfl⟩
    rw [Hbn.out]
    go_wp2
    go_ret
    exact HP.out
  · have HP := Lib.hid (show ∀ w', Grew b v l (be t.length 2 ++ t) w w' → Lays b v l (be t.length 2 ++ t) (terr t.length most 65535) w (.returned (.int .i64 0)) w' from fun w' hg => by
      have e : terr t.length most 65535 = 0 := if_neg hlt
      rw [e]; exact ⟨rfl, hg⟩)
    have hlt' : ¬ bnd most 65535 < ((ByteArray.mk t.toArray).size : Int) := by rw [hsz]; exact hlt
    have ht : t.length ≤ 65535 := by have := bnd_lt hlt; omega
    have Ht := Lib.hid (fun (w : World) (hw : Wr w b v l) => text_any b v l t w hw hl ht)
    clear hw hsz hlt
    obtain ⟨s, hs⟩ : ∃ s, s = ByteArray.mk t.toArray := ⟨_, rfl⟩
    rw [← hs] at hlt' hm Ht ⊢
    clear hs
    unfold maxLen at hm
    generalize hbn : bnd most 65535 = bn at *
    have Hbn := Lib.hid hbn
    clear hbn
    go_enter Try.func67, Try.ntmps67
    go_wp2_with fail
    refine (bound_any _ _ _).mono ?_
    rintro e w' ⟨rfl, rfl⟩
    rw [Hbn.out]
    go_wp2_with fail
    refine (Ht.out _ Hw.out).mono ?_
    rintro e w' ⟨rfl, hg⟩
    have Hg := Lib.hid hg
    clear hg
    go_wp2
    go_ret
    exact HP.out _ Hg.out

/-- append(w.b, p...): p any slice of bytes, nil too -/
theorem wpList_append_sl (w : World) {ops : Array Oper} {rest : List Oper} {o : Oper} {a : Act} {Q : Exit → Act → World → Prop} (hgd : o.guard = none) (sl x : Operand)
    (ho : o.op = .call { callee := .builtin .append, args := #[sl, x], argTypes := #[30, 30] })
    (base : Nat) (v : Value) (l t : List UInt8) (hs : a.eval sl = v) (hown : w.ownsRow base 5 1 v l.length (l.map u8)) (sv : Value) (hx : a.eval x = sv) (hsl : Sl w sv t)
    (h63 : l.length + t.length ≤ maxLen) (hbytes : l.length + t.length ≤ 140737488355328) (hbase : base ≤ w.heap.size)
    (h : ∀ v' w', w'.ownsRow base 5 1 v' (l.length + t.length) (l.map u8 ++ t.map u8) → w.grownBy w' v.ownBlock → (v'.ownBlock = v.ownBlock ∨ v'.ownBlock = some w.heap.size) → wpList Try.prog ops Q rest (a.put o.dst v') w') :
    wpList Try.prog ops Q (o :: rest) a w := by
  obtain ⟨i0, hi, hz0, hz1, hz2⟩ := info_parts info8
  obtain ⟨ao, cap, rfl, h1, h2, h3, h4⟩ := hsl
  cases ao with
  | none =>
    obtain rfl := h3 rfl
    have h0 : t = [] := List.eq_nil_of_length_eq_zero (by omega)
    subst h0
    exact wpList_append_own_none hgd sl x 30 ho base 5 i0 1 Try.underlying30 hi v _ _ hs hown hx (h v w (by simpa using hown) (World.grownBy.refl _ _) (.inl rfl))
  | some ad =>
    obtain ⟨hsp, hcell⟩ := h4 ad rfl
    refine wpList_append_own_at w hgd sl x 30 ho base 5 i0 (.int .u8 0) 1 1 Try.underlying30 hi hz0 hz1 hz2 rfl (by decide) v _ _ hs hown ad t.length cap (t.map u8) hx (by simp) (fun j u hu => ?_) (fun u hu => ?_) h63 (by omega) hbase (fun v' w' a1 a2 _ a4 => h v' w' a1 a2 a4)
    · have hj : j < t.length := by have := (List.getElem?_eq_some_iff.1 hu).1; simpa using this
      have e : u = u8 (t.getD j 0) := by simp [hj] at hu; simp [List.getD, hj, hu]
      rw [e]
      exact hcell j hj
    · obtain ⟨_, _, rfl⟩ := List.mem_map.1 hu
      rfl

theorem be_length (n : Int) (k : Nat) : (be n k).length = k := by
  induction k with
  | zero => rfl
  | succ k ih => simp [be, ih]

/-- p's memory is none of the Writer's -/
def Off (p v : Value) (b : Nat) : Prop := ∀ k, own p k → k ≠ b ∧ ¬ own v k

theorem Bytes_any (b : Nat) (v p : Value) (l t : List UInt8) (most : Int) (w : World) (hw : Wr w b v l) (hs : Sl w p t) (hoff : Off p v b) (hl : l.length + t.length ≤ 140737488355300) :
    Calls Try.prog 68 #[.pointer (some ⟨b, 0, none⟩), p, .int .i64 most] w
      (Lays b v l (be t.length 4 ++ t) (terr t.length most 2147483647) w) := by
  have Hw := Lib.hid hw
  have Hs := Lib.hid hs
  obtain ⟨ao, cap, rfl⟩ := Sl.form hs
  by_cases hlt : bnd most 2147483647 < t.length
  · have HP := Lib.hid (show Lays b v l (be t.length 4 ++ t) (terr t.length most 2147483647) w (.returned (.int .i64 6)) w by
      have e : terr t.length most 2147483647 = 6 := if_pos hlt
      rw [e]; exact ⟨rfl, Grew.refl hw⟩)
    clear hw hs
    generalize hbn : bnd most 2147483647 = bn at *
    have Hbn := Lib.hid hbn
    clear hbn
    go_enter Try.func68, Try.ntmps68
    go_wp2_with fail
    refine (bound_any _ _ _).mono ?_
    rintro e w' ⟨rfl, rfl⟩
    rw [Hbn.out]
    go_wp2
    go_ret
    exact HP.out
  · have HP := Lib.hid (show ∀ w', Grew b v l (be t.length 4 ++ t) w w' → Lays b v l (be t.length 4 ++ t) (terr t.length most 2147483647) w (.returned (.int .i64 0)) w' from fun w' hg => by
      have e : terr t.length most 2147483647 = 0 := if_neg hlt
      rw [e]; exact ⟨rfl, hg⟩)
    have ht : t.length ≤ 2147483647 := by have := bnd_lt hlt; omega
    have e32 : IntKind.u32.wrap (t.length : Int) = t.length := by rw [IntKind.wrap_u32]; omega
    clear hw hs
    generalize hbn : bnd most 2147483647 = bn at *
    have Hbn := Lib.hid hbn
    clear hbn
    go_enter Try.func68, Try.ntmps68
    go_wp2_with fail
    refine (bound_any _ _ _).mono ?_
    rintro e w' ⟨rfl, rfl⟩
    rw [Hbn.out]
    go_wp2_with fail
    refine (put32 b v l _ _ (by omega) (WalkArith.wf_u32 (by omega)) Hw.out (by omega)).mono ?_
    rintro e w1 ⟨rfl, v1, hw1, hu1, ho1⟩
    clear e32
    have hc := cell_of_one hw1.1
    have hblt := lt_of_block hw1.1
    have Hb := Lib.hid hw1.1
    have Hown := Lib.hid hw1.2
    have Hu1 := Lib.hid hu1
    have Ho1 := Lib.hid ho1
    have Hs1 := Lib.hid (Hs.out.upd hu1 (fun k hk h => h.elim (hoff k hk).1 (hoff k hk).2))
    have Hl := Lib.hid (show (l ++ be (t.length : Int) 4).length + t.length ≤ maxLen from by simp [be_length]; unfold maxLen; omega)
    have Hl2 := Lib.hid (show (l ++ be (t.length : Int) 4).length + t.length ≤ 140737488355328 from by simp [be_length]; omega)
    clear hw1 hu1 ho1 hoff
    go_wp2_with (at_builtin; refine wpList_append_sl _ rfl _ _ rfl 0 v1 _ t rfl Hown.out _ rfl Hs1.out Hl.out Hl2.out (Nat.zero_le _) ?_; intro v2 w2 hown2 hgrow2 hat2; obtain ⟨ao2, cap2, rfl⟩ := row_form hown2; have hc2 := cell_of_one (one_kept Hb.out (by decide) Hown.out (fun k hk => rfl) (Nat.le_refl _) hgrow2); have hf2 := free_of_one (one_kept Hb.out (by decide) Hown.out (fun k hk => rfl) (Nat.le_refl _) hgrow2); have Hown2 := Lib.hid hown2; have Hgrow2 := Lib.hid hgrow2; have Hat2 := Lib.hid hat2; clear hown2 hgrow2 hat2)
    go_ret
    refine HP.out _ ?_
    have HG := Grew.then Hu1.out Ho1.out (back (news := t) Hb.out Hown.out rfl (Upd.refl _ _) Hown2.out Hgrow2.out Hat2.out)
    simp only [List.length_append] at HG ⊢
    exact HG
end Go.Proofs.Ytcdgimapkbaboaa.StrW
