/-
  docketbook on lists of bytes: Roomy, Same, Intact; docketlaw2.turned.
-/
import Derived.Test.YtgcionimhmbgeaaDoorRCopyW
import Derived.Deep.OwnRows
import Derived.Laws.AppendOwnNone
import Derived.Maps.AppendAt
import Derived.Deep.QuietTactic
import Derived.BigQuiet
namespace Go.Proofs.YtgcionimhmbgeaaDoorR.BookW
open Go.RowKit Sha Mem RowW CopyW
set_option linter.unusedVariables false

theorem i8s : (Tryd.prog.info? 5).map (·.size) = some 1 := by kernel_rfl

/-- append(v, p...): v a row of the call's own, p any slice of bytes, nil too -/
theorem wpList_append_bytes (w : World) {ops : Array Oper} {rest : List Oper} {o : Oper} {a : Act} {Q : Exit → Act → World → Prop} (hgd : o.guard = none) (sl x : Operand)
    (ho : o.op = .call { callee := .builtin .append, args := #[sl, x], argTypes := #[25, 25] })
    (base : Nat) (v : Value) (l t : List UInt8) (hs : a.eval sl = v) (hown : w.ownsRow base 5 1 v l.length (l.map u8)) (sv : Value) (hx : a.eval x = sv) (hsl : Sl w sv t)
    (h63 : l.length + t.length ≤ maxLen) (hbytes : l.length + t.length ≤ 140737488355328) (hbase : base ≤ w.heap.size)
    (h : ∀ v' w', Hid (w'.ownsRow base 5 1 v' (l ++ t).length ((l ++ t).map u8)) → Hid (w.grownBy w' v.ownBlock) → Hid (v'.ownBlock = v.ownBlock ∨ v'.ownBlock = some w.heap.size) → wpList Tryd.prog ops Q rest (a.put o.dst v') w') :
    wpList Tryd.prog ops Q (o :: rest) a w := by
  have h' : ∀ v' w', w'.ownsRow base 5 1 v' (l.length + t.length) (l.map u8 ++ t.map u8) → w.grownBy w' v.ownBlock → (v'.ownBlock = v.ownBlock ∨ v'.ownBlock = some w.heap.size) → wpList Tryd.prog ops Q rest (a.put o.dst v') w' :=
    fun v' w' a b c => h v' w' (show _ by rw [List.length_append, List.map_append]; exact a) b c
  obtain ⟨i0, hi, hz0, hz1, hz2⟩ := info_parts info8
  obtain ⟨ao, cap, rfl, h1, h2, h3, h4⟩ := hsl
  cases ao with
  | none =>
    obtain rfl := h3 rfl
    have h0 : t = [] := List.eq_nil_of_length_eq_zero (by omega)
    subst h0
    exact wpList_append_own_none hgd sl x 25 ho base 5 i0 1 Tryd.underlying25 hi v _ _ hs hown hx (h' v w (by simpa using hown) (World.grownBy.refl _ _) (.inl rfl))
  | some ad =>
    obtain ⟨hsp, hcell⟩ := h4 ad rfl
    refine wpList_append_own_at w hgd sl x 25 ho base 5 i0 (.int .u8 0) 1 1 Tryd.underlying25 hi hz0 hz1 hz2 rfl (by decide) v _ _ hs hown ad t.length cap (t.map u8) hx (by simp) (fun j u hu => ?_) (fun u hu => ?_) h63 (by omega) hbase (fun v' w' a1 a2 _ a4 => h' v' w' a1 a2 a4)
    · have hj : j < t.length := by have := (List.getElem?_eq_some_iff.1 hu).1; simpa using this
      have e : u = u8 (t.getD j 0) := by simp [hj] at hu; simp [List.getD, hj, hu]
      rw [e]
      exact hcell j hj
    · obtain ⟨_, _, rfl⟩ := List.mem_map.1 hu
      rfl

/-- a row of the call's own reads as a slice of bytes -/
theorem Sl.of_own {w : World} {base : Nat} {v : Value} {l : List UInt8} (h : w.ownsRow base 5 1 v l.length (l.map u8)) : Sl w v l := by
  rcases h.2 with ⟨rfl, h0⟩ | ⟨g, cap, cur, rfl, hbg, hg, hnc, hcm, hcs, htake⟩
  · have : l = [] := by simpa using h0
    subst this
    exact ⟨none, 0, rfl, by simp, by simp, fun _ => rfl, by simp⟩
  · refine ⟨_, cap, rfl, hnc, hcm, by simp, fun a ha => ?_⟩
    injection ha with ha
    subst ha
    refine ⟨rfl, fun i hi => ?_⟩
    have := h.cells (g := g) rfl i (u8 (l.getD i 0)) (by rw [List.getElem?_map, List.getD_eq_getElem?_getD, List.getElem?_eq_getElem hi]; rfl)
    exact this
theorem own_nil (w : World) : w.ownsRow 0 5 1 (.slice none 0 0) ([] : List UInt8).length (([] : List UInt8).map u8) := ⟨by simp, .inl ⟨rfl, rfl⟩⟩
theorem Sl.take {w : World} {a : Addr} {N cap k : Nat} {l : List UInt8} (h : Sl w (.slice (some a) N cap) l) (hk : k ≤ l.length) : Sl w (.slice (some a) k cap) (l.take k) := by
  obtain ⟨ao, cap', h1, h2, h3, h4, h5⟩ := h
  injection h1 with e1 e2 e3
  subst e3
  refine ⟨some a, cap, by rw [List.length_take, Nat.min_eq_left hk], by rw [List.length_take]; omega, h3, by simp, fun a' ha => ?_⟩
  injection ha with ha
  subst ha
  obtain ⟨hs, hc⟩ := h5 a e1.symm
  refine ⟨hs, fun i hi => ?_⟩
  rw [List.length_take] at hi
  rw [hc i (by omega), List.getD_eq_getElem?_getD, List.getD_eq_getElem?_getD, List.getElem?_take_of_lt (by omega)]
theorem Sl.cells {w : World} {a : Addr} {N cap : Nat} {l : List UInt8} (h : Sl w (.slice (some a) N cap) l) : a.spot = none ∧ ∀ i, i < l.length → w.cell? (a.add i) = some (u8 (l.getD i 0)) := by
  obtain ⟨ao, cap', h1, h2, h3, h4, h5⟩ := h
  injection h1 with e1 e2 e3
  exact h5 a e1.symm
theorem Sl.of_row {w : World} {g n cap : Nat} {T : TypeId} {l : List UInt8} (h : Row w g T (l.map u8)) (hn : n ≤ l.length) (hc : n ≤ cap) (hm : cap ≤ maxLen) : Sl w (.slice (some ⟨g, 0, none⟩) n cap) (l.take n) := by
  have hl : (l.take n).length = n := by rw [List.length_take]; omega
  refine ⟨some ⟨g, 0, none⟩, cap, by rw [hl], by omega, hm, by simp, fun a ha => ?_⟩
  injection ha with ha
  subst ha
  refine ⟨rfl, fun i hi => ?_⟩
  rw [hl] at hi
  rw [add_none, Nat.zero_add, h.cell, List.getElem?_map, List.getD_eq_getElem?_getD, List.getElem?_take_of_lt (by omega), List.getElem?_eq_getElem (by omega)]
  rfl
theorem Sl.row {w : World} {g cap : Nat} {T : TypeId} {l : List UInt8} (h : Row w g T (l.map u8)) (hc : l.length ≤ cap) (hm : cap ≤ maxLen) : Sl w (.slice (some ⟨g, 0, none⟩) l.length cap) l := by
  have := Sl.of_row h (Nat.le_refl _) hc hm
  rwa [List.take_length] at this

/-- a text with 80 marks behind it -/
def FL (xs : List UInt8) (m : UInt8) : List UInt8 := xs ++ List.replicate 80 m
theorem FL_len (xs : List UInt8) (m : UInt8) : (FL xs m).length = xs.length + 80 := by simp [FL]
theorem FL_take (xs : List UInt8) (m : UInt8) : (FL xs m).take xs.length = xs := by simp [FL]
def RoomAt (w : World) (n : Nat) (xs : List UInt8) (m : UInt8) (e : Ending) (w' : World) : Prop :=
  ∃ g, e = .returned (.slice (some ⟨g, 0, none⟩) (n + 80) (n + 80)) ∧ w.heap.size ≤ g ∧ Row w' g 5 ((FL xs m).map u8) ∧ Upd (fun _ => False) w w'
def rsub (xs : List UInt8) (m : UInt8) (j : Nat) : List UInt8 := xs ++ List.replicate (j - xs.length) m ++ List.replicate (xs.length + 80 - j) 0
theorem rsub_len (xs : List UInt8) (m : UInt8) (j : Nat) (h : xs.length ≤ j) (h2 : j ≤ xs.length + 80) : (rsub xs m j).length = xs.length + 80 := by simp [rsub]; omega
theorem rsub_set (xs : List UInt8) (m : UInt8) (j : Nat) (h : xs.length ≤ j) (h2 : j < xs.length + 80) : (rsub xs m j).set j m = rsub xs m (j + 1) := by
  unfold rsub
  have hl : (xs ++ List.replicate (j - xs.length) m).length = j := by simp; omega
  rw [List.set_append_right _ _ (by omega), hl, Nat.sub_self, show xs.length + 80 - j = (xs.length + 80 - (j + 1)) + 1 by omega, List.replicate_succ, List.set_cons_zero, show j + 1 - xs.length = (j - xs.length) + 1 by omega, List.replicate_succ']
  simp
def LRm (g : Nat) (xs : List UInt8) (m : UInt8) (w0 : World) (i : Value) (wr : World) : Prop :=
  ∃ j : Nat, xs.length ≤ j ∧ j ≤ xs.length + 80 ∧ i = .int .i64 j ∧ Row wr g 5 ((rsub xs m j).map u8) ∧ Upd (fun _ => False) w0 wr


/-- two lists that read alike -/
def LSm (n : Nat) (w0 : World) (i : Value) (wr : World) : Prop := ∃ k : Nat, k ≤ n ∧ i = .int .i64 k ∧ Upd (fun _ => False) w0 wr

set_option maxHeartbeats 2000000 in
set_option maxRecDepth 100000 in
theorem same_any (aa ab : Option Addr) (n ca cb : Nat) (xs : List UInt8) (w : World) (ha : Sl w (.slice aa n ca) xs) (hb : Sl w (.slice ab n cb) xs) (hr : n ≤ 140737488355328) :
    Calls Tryd.prog 67 #[.slice aa n ca, .slice ab n cb] w fun e w' => e = .returned (.bool true) ∧ Upd (fun _ => False) w w' := by
  have hnx : n = xs.length := by obtain ⟨_, _, h, _⟩ := ha; injection h
  have Hnx := Lib.hid hnx
  have Ha := Lib.hid ha
  have Hb := Lib.hid hb
  clear ha hb hnx
  go_enter Tryd.func67, Tryd.ntmps67
  go_wp2
  go_loopw [5] (fun i wr => LSm n w i wr) (fun i _ => (n - (intOf i).toNat))
  case atStart => exact ⟨0, Nat.zero_le _, rfl, Upd.refl _ _⟩
  case round =>
    obtain ⟨k, hk, rfl, hu⟩ := hrel
    have HU := Lib.hid hu
    have hA := Ha.out.upd hu (fun _ _ => id)
    have hB := Hb.out.upd hu (fun _ _ => id)
    clear hu
    by_cases hlt : k < n
    · have hltI : (k : Int) < (n : Int) := by omega
      have hkx : k < xs.length := by have := Hnx.out; omega
      obtain ⟨_, _, he, _, _, h3, h4⟩ := hA
      cases he
      obtain ⟨_, _, he, _, _, g3, g4⟩ := hB
      cases he
      obtain ⟨⟨pa, oa, sa⟩, rfl⟩ : ∃ ad, aa = some ad := by
        cases aa with
        | some ad => exact ⟨ad, rfl⟩
        | none => have := h3 rfl; omega
      obtain ⟨⟨pb, ob, sb⟩, rfl⟩ : ∃ ad, ab = some ad := by
        cases ab with
        | some ad => exact ⟨ad, rfl⟩
        | none => have := g3 rfl; omega
      obtain ⟨hsa, hca⟩ := h4 _ rfl
      obtain ⟨hsb, hcb⟩ := g4 _ rfl
      obtain rfl : sa = none := hsa
      obtain rfl : sb = none := hsb
      have c0 := hca k hkx
      have c1 := hcb k hkx
      rw [add_none] at c0 c1
      obtain ⟨x, hx⟩ : ∃ x, x = xs.getD k 0 := ⟨_, rfl⟩
      rw [← hx] at c0 c1
      clear h3 h4 g3 g4 hca hcb hx hkx
      unfold u8 at c0 c1
      go_wp2
      go_quiet (fail)
      go_wp2
      go_roundw
      case rel => exact ⟨k + 1, by omega, by go_num, RowW.Upd.drewN HU.out _⟩
      case measure => simp [intOf]; omega
    · clear hA hB
      go_wp2
      go_ret
      exact ⟨rfl, HU.out⟩


/-- the first j bytes turned -/
def tsub (L : List UInt8) (j : Nat) : List UInt8 := (L.take j).map (· ^^^ 255) ++ L.drop j
theorem tsub_len (L : List UInt8) (j : Nat) : (tsub L j).length = L.length := by simp [tsub]; omega
theorem tsub_zero (L : List UInt8) : tsub L 0 = L := by simp [tsub]
theorem tsub_set (L : List UInt8) (j : Nat) (hj : j < L.length) : (tsub L j).set j (L.getD j 0 ^^^ 255) = tsub L (j + 1) := by
  unfold tsub
  have hl : ((L.take j).map (· ^^^ 255)).length = j := by simp; omega
  rw [List.set_append_right _ _ (by omega), hl, Nat.sub_self, List.drop_eq_getElem_cons hj, List.set_cons_zero, List.take_succ_eq_append_getElem hj, List.map_append, List.append_assoc]
  simp [List.getD_eq_getElem?_getD, hj]
theorem tsub_at (L : List UInt8) (j : Nat) (hj : j < L.length) : (tsub L j)[j]? = some (L.getD j 0) := by
  have hl : ((L.take j).map (· ^^^ 255)).length = j := by simp; omega
  unfold tsub
  rw [List.getElem?_append_right (by omega), hl, Nat.sub_self, List.getElem?_drop, Nat.add_zero, List.getD_eq_getElem?_getD, List.getElem?_eq_getElem hj]
  rfl
theorem v_xor255 (a : UInt8) : bits .xor .u8 (a.toNat : Int) 255 = ((a ^^^ 255).toNat : Int) := by
  have h := u8_xor_nat a.toNat 255 a.toNat_lt (by decide)
  rw [UInt8.toNat_xor]
  exact h
def LT (g : Nat) (L : List UInt8) (n : Nat) (w0 : World) (i : Value) (wr : World) : Prop :=
  ∃ j : Nat, j ≤ n ∧ i = .int .i64 j ∧ Row wr g 5 ((tsub L j).map u8) ∧ Upd (fun k => k = g) w0 wr
/-- what turned tells: a copy of what stands there then -/
def TurnAt (w : World) (g n : Nat) (L : List UInt8) (e : Ending) (w' : World) : Prop :=
  ∃ v, e = .returned v ∧ Sl w' v ((tsub L n).take n) ∧ (∀ k, own v k → w.heap.size ≤ k) ∧ Row w' g 5 ((tsub L n).map u8) ∧ Upd (fun k => k = g) w w'

end Go.Proofs.YtgcionimhmbgeaaDoorR.BookW
