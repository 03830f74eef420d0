/-
  docketbook on lists of bytes: Roomy, Same, Intact; docketlaw2.turned.
-/
import Derived.Test.YtcdgimapkbaboaaCopyW
import Derived.Deep.OwnRows
import Derived.Laws.AppendOwnNone
import Derived.Maps.AppendAt
import Derived.Deep.QuietTactic
import Derived.BigQuiet
namespace Go.Proofs.Ytcdgimapkbaboaa.BookW
open Go.RowKit Sha Mem RowW CopyW
set_option linter.unusedVariables false

theorem i8s : (Try.prog.info? 5).map (·.size) = some 1 := by kernel_rfl

/-- append(v, p...): v a row of the call's own, p any slice of bytes, nil too -/
theorem wpList_append_bytes (w : World) {ops : Array Oper} {rest : List Oper} {o : Oper} {a : Act} {Q : Exit → Act → World → Prop} (hgd : o.guard = none) (sl x : Operand)
    (ho : o.op = .call { callee := .builtin .append, args := #[sl, x], argTypes := #[30, 30] })
    (base : Nat) (v : Value) (l t : List UInt8) (hs : a.eval sl = v) (hown : w.ownsRow base 5 1 v l.length (l.map u8)) (sv : Value) (hx : a.eval x = sv) (hsl : Sl w sv t)
    (h63 : l.length + t.length ≤ maxLen) (hbytes : l.length + t.length ≤ 140737488355328) (hbase : base ≤ w.heap.size)
    (h : ∀ v' w', Hid (w'.ownsRow base 5 1 v' (l ++ t).length ((l ++ t).map u8)) → Hid (w.grownBy w' v.ownBlock) → Hid (v'.ownBlock = v.ownBlock ∨ v'.ownBlock = some w.heap.size) → wpList Try.prog ops Q rest (a.put o.dst v') w') :
    wpList Try.prog ops Q (o :: rest) a w := by
  have h' : ∀ v' w', w'.ownsRow base 5 1 v' (l.length + t.length) (l.map u8 ++ t.map u8) → w.grownBy w' v.ownBlock → (v'.ownBlock = v.ownBlock ∨ v'.ownBlock = some w.heap.size) → wpList Try.prog ops Q rest (a.put o.dst v') w' :=
    fun v' w' a b c => h v' w' (show _ by rw [List.length_append, List.map_append]; exact a) b c
  obtain ⟨i0, hi, hz0, hz1, hz2⟩ := info_parts info8
  obtain ⟨ao, cap, rfl, h1, h2, h3, h4⟩ := hsl
  cases ao with
  | none =>
    obtain rfl := h3 rfl
    have h0 : t = [] := List.eq_nil_of_length_eq_zero (by omega)
    subst h0
    exact wpList_append_own_none hgd sl x 30 ho base 5 i0 1 Try.underlying30 hi v _ _ hs hown hx (h' v w (by simpa using hown) (World.grownBy.refl _ _) (.inl rfl))
  | some ad =>
    obtain ⟨hsp, hcell⟩ := h4 ad rfl
    refine wpList_append_own_at w hgd sl x 30 ho base 5 i0 (.int .u8 0) 1 1 Try.underlying30 hi hz0 hz1 hz2 rfl (by decide) v _ _ hs hown ad t.length cap (t.map u8) hx (by simp) (fun j u hu => ?_) (fun u hu => ?_) h63 (by omega) hbase (fun v' w' a1 a2 _ a4 => h' v' w' a1 a2 a4)
    · have hj : j < t.length := by have := (List.getElem?_eq_some_iff.1 hu).1; simpa using this
      have e : u = u8 (t.getD j 0) := by simp [hj] at hu; simp [List.getD, hj, hu]
      rw [e]
      exact hcell j hj
    · obtain ⟨_, _, rfl⟩ := List.mem_map.1 hu
      rfl

/-- a row of the call's own reads as a slice of bytes -/
theorem Sl.of_own {w : World} {base : Nat} {v : Value} {l : List UInt8} (h : w.ownsRow base 5 1 v l.length (l.map u8)) : Sl w v l := by
  rcases h.2 with ⟨rfl, h0⟩ | ⟨g, cap, cur, rfl, hbg, hg, hnc, hcm, hcs, htake⟩
  · have : l = [] := by simpa using h0
    subst this
    exact ⟨none, 0, rfl, by simp, by simp, fun _ => rfl, by simp⟩
  · refine ⟨_, cap, rfl, hnc, hcm, by simp, fun a ha => ?_⟩
    injection ha with ha
    subst ha
    refine ⟨rfl, fun i hi => ?_⟩
    have := h.cells (g := g) rfl i (u8 (l.getD i 0)) (by rw [List.getElem?_map, List.getD_eq_getElem?_getD, List.getElem?_eq_getElem hi]; rfl)
    exact this
theorem own_nil (w : World) : w.ownsRow 0 5 1 (.slice none 0 0) ([] : List UInt8).length (([] : List UInt8).map u8) := ⟨by simp, .inl ⟨rfl, rfl⟩⟩
theorem Sl.take {w : World} {a : Addr} {N cap k : Nat} {l : List UInt8} (h : Sl w (.slice (some a) N cap) l) (hk : k ≤ l.length) : Sl w (.slice (some a) k cap) (l.take k) := by
  obtain ⟨ao, cap', h1, h2, h3, h4, h5⟩ := h
  injection h1 with e1 e2 e3
  subst e3
  refine ⟨some a, cap, by rw [List.length_take, Nat.min_eq_left hk], by rw [List.length_take]; omega, h3, by simp, fun a' ha => ?_⟩
  injection ha with ha
  subst ha
  obtain ⟨hs, hc⟩ := h5 a e1.symm
  refine ⟨hs, fun i hi => ?_⟩
  rw [List.length_take] at hi
  rw [hc i (by omega), List.getD_eq_getElem?_getD, List.getD_eq_getElem?_getD, List.getElem?_take_of_lt (by omega)]
theorem Sl.cells {w : World} {a : Addr} {N cap : Nat} {l : List UInt8} (h : Sl w (.slice (some a) N cap) l) : a.spot = none ∧ ∀ i, i < l.length → w.cell? (a.add i) = some (u8 (l.getD i 0)) := by
  obtain ⟨ao, cap', h1, h2, h3, h4, h5⟩ := h
  injection h1 with e1 e2 e3
  exact h5 a e1.symm
theorem Sl.of_row {w : World} {g n cap : Nat} {T : TypeId} {l : List UInt8} (h : Row w g T (l.map u8)) (hn : n ≤ l.length) (hc : n ≤ cap) (hm : cap ≤ maxLen) : Sl w (.slice (some ⟨g, 0, none⟩) n cap) (l.take n) := by
  have hl : (l.take n).length = n := by rw [List.length_take]; omega
  refine ⟨some ⟨g, 0, none⟩, cap, by rw [hl], by omega, hm, by simp, fun a ha => ?_⟩
  injection ha with ha
  subst ha
  refine ⟨rfl, fun i hi => ?_⟩
  rw [hl] at hi
  rw [add_none, Nat.zero_add, h.cell, List.getElem?_map, List.getD_eq_getElem?_getD, List.getElem?_take_of_lt (by omega), List.getElem?_eq_getElem (by omega)]
  rfl
theorem Sl.row {w : World} {g cap : Nat} {T : TypeId} {l : List UInt8} (h : Row w g T (l.map u8)) (hc : l.length ≤ cap) (hm : cap ≤ maxLen) : Sl w (.slice (some ⟨g, 0, none⟩) l.length cap) l := by
  have := Sl.of_row h (Nat.le_refl _) hc hm
  rwa [List.take_length] at this

/-- a text with 80 marks behind it -/
def FL (xs : List UInt8) (m : UInt8) : List UInt8 := xs ++ List.replicate 80 m
theorem FL_len (xs : List UInt8) (m : UInt8) : (FL xs m).length = xs.length + 80 := by simp [FL]
theorem FL_take (xs : List UInt8) (m : UInt8) : (FL xs m).take xs.length = xs := by simp [FL]
def RoomAt (w : World) (n : Nat) (xs : List UInt8) (m : UInt8) (e : Ending) (w' : World) : Prop :=
  ∃ g, e = .returned (.slice (some ⟨g, 0, none⟩) (n + 80) (n + 80)) ∧ w.heap.size ≤ g ∧ Row w' g 5 ((FL xs m).map u8) ∧ Upd (fun _ => False) w w'
def rsub (xs : List UInt8) (m : UInt8) (j : Nat) : List UInt8 := xs ++ List.replicate (j - xs.length) m ++ List.replicate (xs.length + 80 - j) 0
theorem rsub_len (xs : List UInt8) (m : UInt8) (j : Nat) (h : xs.length ≤ j) (h2 : j ≤ xs.length + 80) : (rsub xs m j).length = xs.length + 80 := by simp [rsub]; omega
theorem rsub_set (xs : List UInt8) (m : UInt8) (j : Nat) (h : xs.length ≤ j) (h2 : j < xs.length + 80) : (rsub xs m j).set j m = rsub xs m (j + 1) := by
  unfold rsub
  have hl : (xs ++ List.replicate (j - xs.length) m).length = j := by simp; omega
  rw [List.set_append_right _ _ (by omega), hl, Nat.sub_self, show xs.length + 80 - j = (xs.length + 80 - (j + 1)) + 1 by omega, List.replicate_succ, List.set_cons_zero, show j + 1 - xs.length = (j - xs.length) + 1 by omega, List.replicate_succ']
  simp
def LRm (g : Nat) (xs : List UInt8) (m : UInt8) (w0 : World) (i : Value) (wr : World) : Prop :=
  ∃ j : Nat, xs.length ≤ j ∧ j ≤ xs.length + 80 ∧ i = .int .i64 j ∧ Row wr g 5 ((rsub xs m j).map u8) ∧ Upd (fun _ => False) w0 wr

set_option maxHeartbeats 2000000 in
set_option maxRecDepth 100000 in
theorem roomy_any (ao : Option Addr) (n cap : Nat) (xs : List UInt8) (m : UInt8) (w : World) (hs : Sl w (.slice ao n cap) xs) (hr : n ≤ 140737488351232) :
    Calls Try.prog 57 #[.slice ao n cap, .int .u8 (m.toNat : Int)] w (RoomAt w n xs m) := by
  have hnx : n = xs.length := by obtain ⟨_, _, h, _⟩ := hs; injection h
  have Hnx := Lib.hid hnx
  have Hs := Lib.hid hs
  clear hs hnx
  obtain ⟨M, hM⟩ : ∃ M, M = madeCells #[Value.int .u8 0] (n + 80) := ⟨_, rfl⟩
  have hML : M = ((List.replicate (n + 80) (0 : UInt8)).map u8).toArray := by
    rw [hM]
    apply Array.toList_inj.1
    apply List.ext_getElem?
    intro i
    rw [List.map_replicate, List.getElem?_replicate]
    rcases Nat.lt_or_ge i (n + 80) with h | h
    · rw [if_pos h]; simp [madeCells, h, u8, Nat.mod_one]
    · rw [if_neg (by omega)]; simp [madeCells, h]
  have hmk : ∀ w : World, (Instr.makeSlice 30 (.int .i64 ((n : Int) + 80)) (.int .i64 ((n : Int) + 80))).run Try.prog w = .ok (.slice (some ⟨w.heap.size, 0, none⟩) (n + 80) (n + 80)) (w.alloc (.cells M 5)) := by
    intro w
    have ec : ((n : Int) + 80) = ((n + 80 : Nat) : Int) := by omega
    rw [ec, hM]
    exact run_make_row' 30 5 (.int .u8 0) 1 Try.underlying30 info8 rfl .i64 .i64 (n + 80) (by omega) (by omega) w
  have HW0 : Hid (Row (w.alloc (.cells M 5)) w.heap.size 5 ((List.replicate (n + 80) (0 : UInt8)).map u8)) := by
    show Row _ _ _ _
    rw [hML]; exact Row.new _ _ _
  have HU0 : Hid (Upd (fun _ => False) w (w.alloc (.cells M 5))) := (Upd.refl _ w).alloc _
  have Hsrc := Lib.hid (src_of (Hs.out.upd HU0.out (fun _ _ => id)) (Nat.le_refl xs.length))
  rw [List.take_length] at Hsrc
  have Hmin : Hid (xs.length = Nat.min n (n + 80)) := by show _ = _; rw [← Hnx.out]; simp only [Nat.min_def]; split <;> omega
  have HSP : Hid (splice ((List.replicate (n + 80) (0 : UInt8)).map u8) 0 (xs.map u8) = (rsub xs m n).map u8) := by
    show _ = _
    unfold splice rsub
    rw [Hnx.out, List.take_zero, List.nil_append, Nat.zero_add, Nat.sub_self, List.replicate_zero, List.append_nil, List.length_map, List.map_replicate, List.drop_replicate, List.map_append, List.map_replicate]
  clear hM hML
  go_enter Try.func57, Try.ntmps57
  go_wp2_with ((with_reducible refine wpList_copy_new (o := ⟨some 13, _, _, _, _, _⟩) ?_ (.tmp 11) (.tmp 12) 30 30 ?_ 5 Try.underlying30 i8s (some ⟨w.heap.size, 0, none⟩) ao (n + 80) (n + 80) n cap ?_ ?_ w.heap.size 0 _ _ HW0.out (xs.map u8) ?_ ?_ ?_ (one_of _) ?_); rfl; rfl; rfl; rfl; (rw [Hsrc.out.1, Hmin.out]); (exact fun hp => ⟨rfl, Hsrc.out.2 hp⟩); (rw [Hsrc.out.1, List.length_map, List.length_replicate, ← Hnx.out]; omega); intro w1 HR1 HU1)
  have HS : Hid (LRm w.heap.size xs m w (.int .i64 (n : Int)) w1) := by
    refine ⟨n, by rw [Hnx.out]; exact Nat.le_refl _, by have := Hnx.out; omega, rfl, ?_, HU0.out.trans (HU1.out.mono (fun k _ e => .inr (by omega)))⟩
    rw [← HSP.out]
    exact HR1.out
  clear HR1 HU1 hmk
  go_loopw [6] (fun i wr => LRm w.heap.size xs m w i wr) (fun i _ => (n + 80 - (intOf i).toNat))
  case atStart => exact HS.out
  case round =>
    clear HS
    obtain ⟨j, hj1, hj2, rfl, hrow, hu⟩ := hrel
    have HR := Lib.hid hrow
    have HU := Lib.hid hu
    have HJ1 := Lib.hid hj1
    have hj2' : j ≤ n + 80 := by have := Hnx.out; omega
    clear hrow hu hj1 hj2
    by_cases hlt : j < n + 80
    · have hltI : (j : Int) < (n : Int) + 80 := by omega
      have c0 : wr.cell? ⟨w.heap.size, j, none⟩ = some (u8 ((rsub xs m j).getD j 0)) := by
        have hl := rsub_len xs m j HJ1.out (by have := Hnx.out; omega)
        rw [HR.out.cell, List.getElem?_map, List.getD_eq_getElem?_getD, List.getElem?_eq_getElem (by have := Hnx.out; omega)]
        rfl
      have f0 := HR.out.frozen j
      go_wp2
      go_roundw
      case rel =>
        refine ⟨j + 1, by have := HJ1.out; omega, by have := Hnx.out; omega, by go_num, ?_, HU.out.put _ _ (.inr (Nat.le_refl _)) _⟩
        rw [← rsub_set xs m j HJ1.out (by have := Hnx.out; omega), List.map_set]
        exact HR.out.set j _
      case measure => simp [intOf]; omega
    · have HP : Hid (RoomAt w n xs m (.returned (.slice (some ⟨w.heap.size, 0, none⟩) (n + 80) (n + 80))) wr) := by
        refine ⟨_, rfl, Nat.le_refl _, ?_, HU.out⟩
        have h := HR.out
        have e : rsub xs m j = FL xs m := by
          unfold rsub FL
          rw [show j - xs.length = 80 by have := Hnx.out; omega, show xs.length + 80 - j = 0 by have := Hnx.out; omega, List.replicate_zero, List.append_nil]
        rwa [e] at h
      go_wp2
      go_ret
      exact HP.out

/-- two lists that read alike -/
def LSm (n : Nat) (w0 : World) (i : Value) (wr : World) : Prop := ∃ k : Nat, k ≤ n ∧ i = .int .i64 k ∧ Upd (fun _ => False) w0 wr

set_option maxHeartbeats 2000000 in
set_option maxRecDepth 100000 in
theorem same_any (aa ab : Option Addr) (n ca cb : Nat) (xs : List UInt8) (w : World) (ha : Sl w (.slice aa n ca) xs) (hb : Sl w (.slice ab n cb) xs) (hr : n ≤ 140737488355328) :
    Calls Try.prog 87 #[.slice aa n ca, .slice ab n cb] w fun e w' => e = .returned (.bool true) ∧ Upd (fun _ => False) w w' := by
  have hnx : n = xs.length := by obtain ⟨_, _, h, _⟩ := ha; injection h
  have Hnx := Lib.hid hnx
  have Ha := Lib.hid ha
  have Hb := Lib.hid hb
  clear ha hb hnx
  go_enter Try.func87, Try.ntmps87
  go_wp2
  go_loopw [5] (fun i wr => LSm n w i wr) (fun i _ => (n - (intOf i).toNat))
  case atStart => exact ⟨0, Nat.zero_le _, rfl, Upd.refl _ _⟩
  case round =>
    obtain ⟨k, hk, rfl, hu⟩ := hrel
    have HU := Lib.hid hu
    have hA := Ha.out.upd hu (fun _ _ => id)
    have hB := Hb.out.upd hu (fun _ _ => id)
    clear hu
    by_cases hlt : k < n
    · have hltI : (k : Int) < (n : Int) := by omega
      have hkx : k < xs.length := by have := Hnx.out; omega
      obtain ⟨_, _, he, _, _, h3, h4⟩ := hA
      cases he
      obtain ⟨_, _, he, _, _, g3, g4⟩ := hB
      cases he
      obtain ⟨⟨pa, oa, sa⟩, rfl⟩ : ∃ ad, aa = some ad := by
        cases aa with
        | some ad => exact ⟨ad, rfl⟩
        | none => have := h3 rfl; omega
      obtain ⟨⟨pb, ob, sb⟩, rfl⟩ : ∃ ad, ab = some ad := by
        cases ab with
        | some ad => exact ⟨ad, rfl⟩
        | none => have := g3 rfl; omega
      obtain ⟨hsa, hca⟩ := h4 _ rfl
      obtain ⟨hsb, hcb⟩ := g4 _ rfl
      obtain rfl : sa = none := hsa
      obtain rfl : sb = none := hsb
      have c0 := hca k hkx
      have c1 := hcb k hkx
      rw [add_none] at c0 c1
      obtain ⟨x, hx⟩ : ∃ x, x = xs.getD k 0 := ⟨_, rfl⟩
      rw [← hx] at c0 c1
      clear h3 h4 g3 g4 hca hcb hx hkx
      unfold u8 at c0 c1
      go_wp2
      go_quiet (fail)
      go_wp2
      go_roundw
      case rel => exact ⟨k + 1, by omega, by go_num, RowW.Upd.drewN HU.out _⟩
      case measure => simp [intOf]; omega
    · clear hA hB
      go_wp2
      go_ret
      exact ⟨rfl, HU.out⟩

set_option maxHeartbeats 2000000 in
set_option maxRecDepth 100000 in
theorem intact_any (fa : Addr) (fc : Nat) (aw : Option Addr) (n cw : Nat) (xs : List UInt8) (m : UInt8) (w : World) (hf : Sl w (.slice (some fa) (n + 80) fc) (FL xs m)) (hs : Sl w (.slice aw n cw) xs) (hr : n ≤ 140737488351232) :
    Calls Try.prog 58 #[.slice (some fa) (n + 80) fc, .slice aw n cw, .int .u8 (m.toNat : Int)] w fun e w' => e = .returned (.bool true) ∧ Upd (fun _ => False) w w' := by
  have hnx : n = xs.length := by obtain ⟨_, _, h, _⟩ := hs; injection h
  have hfc : n + 80 ≤ fc := by
    obtain ⟨_, _, h, h2, _⟩ := hf
    injection h with _ _ h3
    rw [FL_len] at h2
    omega
  have Hnx := Lib.hid hnx
  have Hs := Lib.hid hs
  have Hf := Lib.hid hf
  have hft : Sl w (.slice (some fa) n fc) xs := by
    have h := Sl.take hf (k := xs.length) (by rw [FL_len]; omega)
    rwa [FL_take, ← hnx] at h
  have HSm := Lib.hid (same_any (some fa) aw n fc cw xs w hft hs (by omega))
  have hfcI : (n : Int) ≤ (fc : Int) := by omega
  clear hf hs hft hnx
  go_enter Try.func58, Try.ntmps58
  go_wp2_with (go_at_call 87; refine HSm.out.mono ?_; rintro e w1 ⟨rfl, hu1⟩; have HU1 := Lib.hid hu1; clear hu1)
  go_loopw [7] (fun i wr => ∃ k : Nat, n ≤ k ∧ k ≤ n + 80 ∧ i = .int .i64 k ∧ Upd (fun _ => False) w wr) (fun i _ => (n + 80 - (intOf i).toNat))
  case atStart => exact ⟨n, Nat.le_refl _, by omega, rfl, HU1.out⟩
  case round =>
    obtain ⟨k, hk1, hk, rfl, hu⟩ := hrel
    have HU := Lib.hid hu
    have hF := Hf.out.upd hu (fun _ _ => id)
    clear hu
    by_cases hlt : k < n + 80
    · have hltI : (k : Int) < (n : Int) + 80 := by omega
      obtain ⟨fb, fo, fs⟩ := fa
      obtain ⟨hsa, hca⟩ := Sl.cells hF
      obtain rfl : fs = none := hsa
      have c0 := hca k (by rw [FL_len]; have := Hnx.out; omega)
      have e0 : (FL xs m).getD k 0 = m := by
        unfold FL
        rw [List.getD_eq_getElem?_getD, List.getElem?_append_right (by have := Hnx.out; omega), List.getElem?_replicate, if_pos (by have := Hnx.out; omega)]
        rfl
      rw [add_none, e0] at c0
      clear hca e0
      unfold u8 at c0
      go_wp2
      go_roundw
      case rel => exact ⟨k + 1, by omega, by omega, by go_num, HU.out⟩
      case measure => simp [intOf]; omega
    · clear hF
      go_wp2
      go_ret
      exact ⟨rfl, HU.out⟩

/-- the first j bytes turned -/
def tsub (L : List UInt8) (j : Nat) : List UInt8 := (L.take j).map (· ^^^ 255) ++ L.drop j
theorem tsub_len (L : List UInt8) (j : Nat) : (tsub L j).length = L.length := by simp [tsub]; omega
theorem tsub_zero (L : List UInt8) : tsub L 0 = L := by simp [tsub]
theorem tsub_set (L : List UInt8) (j : Nat) (hj : j < L.length) : (tsub L j).set j (L.getD j 0 ^^^ 255) = tsub L (j + 1) := by
  unfold tsub
  have hl : ((L.take j).map (· ^^^ 255)).length = j := by simp; omega
  rw [List.set_append_right _ _ (by omega), hl, Nat.sub_self, List.drop_eq_getElem_cons hj, List.set_cons_zero, List.take_succ_eq_append_getElem hj, List.map_append, List.append_assoc]
  simp [List.getD_eq_getElem?_getD, hj]
theorem tsub_at (L : List UInt8) (j : Nat) (hj : j < L.length) : (tsub L j)[j]? = some (L.getD j 0) := by
  have hl : ((L.take j).map (· ^^^ 255)).length = j := by simp; omega
  unfold tsub
  rw [List.getElem?_append_right (by omega), hl, Nat.sub_self, List.getElem?_drop, Nat.add_zero, List.getD_eq_getElem?_getD, List.getElem?_eq_getElem hj]
  rfl
theorem v_xor255 (a : UInt8) : bits .xor .u8 (a.toNat : Int) 255 = ((a ^^^ 255).toNat : Int) := by
  have h := u8_xor_nat a.toNat 255 a.toNat_lt (by decide)
  rw [UInt8.toNat_xor]
  exact h
def LT (g : Nat) (L : List UInt8) (n : Nat) (w0 : World) (i : Value) (wr : World) : Prop :=
  ∃ j : Nat, j ≤ n ∧ i = .int .i64 j ∧ Row wr g 5 ((tsub L j).map u8) ∧ Upd (fun k => k = g) w0 wr
/-- what turned tells: a copy of what stands there then -/
def TurnAt (w : World) (g n : Nat) (L : List UInt8) (e : Ending) (w' : World) : Prop :=
  ∃ v, e = .returned v ∧ Sl w' v ((tsub L n).take n) ∧ (∀ k, own v k → w.heap.size ≤ k) ∧ Row w' g 5 ((tsub L n).map u8) ∧ Upd (fun k => k = g) w w'

end Go.Proofs.Ytcdgimapkbaboaa.BookW
