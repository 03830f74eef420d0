/-
  docketlaw2.DigestClash: its closed questions (under way).
-/
import Derived.Test.YtiglaeipbcmlnaaDoorClG
import Derived.Test.YtiglaeipbcmlnaaDoorNamesD
import Derived.Test.YtiglaeipbcmlnaaDoorBranchW
import Derived.Test.YtiglaeipbcmlnaaDoorSumsW
import Derived.Test.YtiglaeipbcmlnaaDoorTabsG
namespace Go.Proofs.YtiglaeipbcmlnaaDoor.ClashD
open Go.RowKit Sha TurnW Mem RowW CopyW SumH NewW EqW BookW SplitL SplitM CutW HashM MixW NamesD ClashL ClashW ClashC RefCl TabP TabL BookE ClashT BookM BookK TurnO
set_option linter.unusedVariables false
set_option linter.unusedSimpArgs false

theorem push4 (a : Array Obj) (o1 o2 o3 o4 : Obj) : ((((a.push o1).push o2).push o3).push o4)[a.size]? = some o1 ∧ ((((a.push o1).push o2).push o3).push o4)[a.size + 1]? = some o2 ∧
    ((((a.push o1).push o2).push o3).push o4)[a.size + 1 + 1]? = some o3 ∧ ((((a.push o1).push o2).push o3).push o4)[a.size + 1 + 1 + 1]? = some o4 := by
  refine ⟨?_, ?_, ?_, ?_⟩ <;> simp only [Array.getElem?_push, Array.size_push] <;> repeat (first | rw [if_pos trivial] | rw [if_neg (by omega)] | rw [if_pos (by omega)])
theorem turned_FL (l : List UInt8) (n : Nat) (h : n = l.length) : (tsub (FL l 165) n).take n = flipB l ∧ tsub (FL l 165) n = FL (flipB l) 165 := by
  subst h
  unfold tsub FL flipB
  rw [List.take_append_of_le_length (Nat.le_refl _), List.drop_append_of_le_length (Nat.le_refl _), List.take_length, List.drop_length, List.nil_append]
  exact ⟨by rw [List.take_append_of_le_length (by simp), List.take_of_length_le (by simp)], rfl⟩
/-- Three literals of one byte and the slice of them. -/
theorem slL3 (w : World) (fa fb fc : Nat × Nat) (x y z : UInt8) :
    OfW.SlL ((((w.alloc (.cells #[.int .u8 (x.toNat : Int)] 5 fa)).alloc (.cells #[.int .u8 (y.toNat : Int)] 5 fb)).alloc (.cells #[.int .u8 (z.toNat : Int)] 5 fc)).alloc
      (.cells #[.slice (some ⟨w.heap.size, 0, none⟩) 1 1, .slice (some ⟨w.heap.size + 1, 0, none⟩) 1 1, .slice (some ⟨w.heap.size + 1 + 1, 0, none⟩) 1 1] 25))
      (.slice (some ⟨w.heap.size + 1 + 1 + 1, 0, none⟩) 3 3) [[x], [y], [z]] (fun k => k < w.heap.size + 4) := by
  obtain ⟨o1, ho1⟩ : ∃ o : Obj, o = .cells #[.int .u8 (x.toNat : Int)] 5 fa := ⟨_, rfl⟩
  obtain ⟨o2, ho2⟩ : ∃ o : Obj, o = .cells #[.int .u8 (y.toNat : Int)] 5 fb := ⟨_, rfl⟩
  obtain ⟨o3, ho3⟩ : ∃ o : Obj, o = .cells #[.int .u8 (z.toNat : Int)] 5 fc := ⟨_, rfl⟩
  obtain ⟨o4, ho4⟩ : ∃ o : Obj, o = .cells #[.slice (some ⟨w.heap.size, 0, none⟩) 1 1, .slice (some ⟨w.heap.size + 1, 0, none⟩) 1 1, .slice (some ⟨w.heap.size + 1 + 1, 0, none⟩) 1 1] 25 := ⟨_, rfl⟩
  rw [← ho1, ← ho2, ← ho3, ← ho4]
  obtain ⟨u, hu⟩ : ∃ u, u = (((w.alloc o1).alloc o2).alloc o3).alloc o4 := ⟨_, rfl⟩
  rw [← hu]
  have h1 : u.heap[w.heap.size]? = some (.cells ([x].map u8).toArray 5 fa) := by
    rw [hu]; exact ((push4 w.heap o1 o2 o3 o4).1).trans (by rw [ho1]; rfl)
  have h2 : u.heap[w.heap.size + 1]? = some (.cells ([y].map u8).toArray 5 fb) := by
    rw [hu]; exact ((push4 w.heap o1 o2 o3 o4).2.1).trans (by rw [ho2]; rfl)
  have h3 : u.heap[w.heap.size + 1 + 1]? = some (.cells ([z].map u8).toArray 5 fc) := by
    rw [hu]; exact ((push4 w.heap o1 o2 o3 o4).2.2.1).trans (by rw [ho3]; rfl)
  have h4 : u.heap[w.heap.size + 1 + 1 + 1]? = some o4 := by
    rw [hu]; exact (push4 w.heap o1 o2 o3 o4).2.2.2
  rw [ho4] at h4
  clear hu ho1 ho2 ho3 ho4
  refine ⟨_, 3, fun i => .slice (some ⟨w.heap.size + i, 0, none⟩) 1 1, rfl, by simp, fun k hk => ?_, fun a ha => ?_⟩
  · have := WriteW.own_at hk
    omega
  · injection ha with ha
    subst ha
    refine ⟨rfl, fun i hi => ?_⟩
    have hi' : i = 0 ∨ i = 1 ∨ i = 2 := by simp at hi; omega
    rcases hi' with rfl | rfl | rfl
    · refine ⟨?_, BranchW.sl_row u _ _ [x] fa 1 rfl (by unfold maxLen; simp) h1, fun k hk => by have := WriteW.own_at hk; omega⟩
      rw [add_none, cell_of_row _ _ _ _ _ _ h4]; rfl
    · refine ⟨?_, BranchW.sl_row u _ _ [y] fb 1 rfl (by unfold maxLen; simp) h2, fun k hk => by have := WriteW.own_at hk; omega⟩
      rw [add_none, cell_of_row _ _ _ _ _ _ h4]; rfl
    · refine ⟨?_, BranchW.sl_row u _ _ [z] fc 1 rfl (by unfold maxLen; simp) h3, fun k hk => by have := WriteW.own_at hk; omega⟩
      rw [add_none, cell_of_row _ _ _ _ _ _ h4]; rfl

theorem clash_n (a : Int) (n : Nat) {ts : List (List UInt8)} (hnl : n = ts.length) (ao : Option Addr) (cap : Nat) (O : Nat → Prop) (w : World) (hs : OfW.SlL w (.slice ao n cap) ts O) (hO : ∀ k, O k → k < w.heap.size) (hn : n ≤ 70368744177660)
    (hk : Kw w) (hg : 0 < w.heap.size) (hlen : ∀ i, i < ts.length → (ts.getD i []).length ≤ 140737488355328) :
    Calls Tryd.prog 46 #[.int .i64 a, .slice ao n cap] w (ClashAt a ts w) := by
  subst hnl
  exact clash_any a ao cap ts O w hs hO hn hk hg hlen
/-- the k-th literal's conversion to its own type: its row gets the mark -/
theorem mark1 (w : World) (x : Int) : (convert 25 25 (.slice (some ⟨w.heap.size, 0, none⟩) 1 1)).run Tryd.prog (w.alloc (.cells #[.int .u8 x] 5)) = .ok (.slice (some ⟨w.heap.size, 0, none⟩) 1 1) (w.alloc (.cells #[.int .u8 x] 5 (1, 2))) :=
  Lib.run_convert_bytes_const w _ _ #[.int .u8 x] 1 1 Tryd.underlying25 Tryd.underlying5
theorem mark2 (w : World) (o : Obj) (x : Int) : (convert 25 25 (.slice (some ⟨w.heap.size + 1, 0, none⟩) 1 1)).run Tryd.prog ((w.alloc o).alloc (.cells #[.int .u8 x] 5)) = .ok (.slice (some ⟨w.heap.size + 1, 0, none⟩) 1 1) ((w.alloc o).alloc (.cells #[.int .u8 x] 5 (1, 2))) := by
  have h := mark1 (w.alloc o) x
  simpa using h
theorem mark3 (w : World) (o o' : Obj) (x : Int) : (convert 25 25 (.slice (some ⟨w.heap.size + 1 + 1, 0, none⟩) 1 1)).run Tryd.prog (((w.alloc o).alloc o').alloc (.cells #[.int .u8 x] 5)) = .ok (.slice (some ⟨w.heap.size + 1 + 1, 0, none⟩) 1 1) (((w.alloc o).alloc o').alloc (.cells #[.int .u8 x] 5 (1, 2))) := by
  have h := mark1 ((w.alloc o).alloc o') x
  simpa using h

set_option maxHeartbeats 4000000 in
set_option maxRecDepth 100000 in
theorem walk (width : Int) (hw : -9223372036854775808 ≤ width ∧ width ≤ 9223372036854775807) (ao : Option Addr) (n cap : Nat) (ts : List (List UInt8)) (w : World) (hs : SlE w (.slice ao n cap) ts (fun k => k < w.heap.size)) (hn : n ≤ 140737488351232) (hel : ∀ i, (ts.getD i []).length ≤ 140737488351232)
    (hk : Kw w) (hg : 0 < w.heap.size) :
    Calls Tryd.prog 8 #[.int .i64 width, .slice ao n cap] w fun e w' => e = .returned (.bool true) ∧ Upd (fun _ => False) w w' := by
  have hnl : n = ts.length := by obtain ⟨_, _, _, h, _⟩ := hs; injection h
  have Hnl := Lib.hid hnl
  have Hs_ := Lib.hid hs
  have Hel := Lib.hid hel
  have Hk := Lib.hid hk
  have Hg := Lib.hid hg
  have Hw := Lib.hid hw
  clear hnl hs hk hg hw hel
  go_enter Tryd.func8, Tryd.ntmps8
  have c1 := mark1 w 97
  have c2 := mark2 w (.cells #[.int .u8 97] 5 (1, 2)) 98
  have c3 := mark3 w (.cells #[.int .u8 97] 5 (1, 2)) (.cells #[.int .u8 98] 5 (1, 2)) 97
  have hu0 : Upd (fun _ => False) w ((((w.alloc (.cells #[.int .u8 97] 5 (1, 2))).alloc (.cells #[.int .u8 98] 5 (1, 2))).alloc (.cells #[.int .u8 97] 5 (1, 2))).alloc
      (.cells #[.slice (some ⟨w.heap.size, 0, none⟩) 1 1, .slice (some ⟨w.heap.size + 1, 0, none⟩) 1 1, .slice (some ⟨w.heap.size + 1 + 1, 0, none⟩) 1 1] 25)) := ((((Upd.refl _ w).alloc _).alloc _).alloc _).alloc _
  have HCl := Lib.hid (clash_any 32 (some ⟨w.heap.size + 1 + 1 + 1, 0, none⟩) 3 T1 _ _ (slL3 w (1, 2) (1, 2) (1, 2) 97 98 97) (fun k hk => by first | (simp; done) | (simp; omega)) (by decide) (Hk.out.upd hu0 id) (by have := Hg.out; first | (simp; done) | (simp; omega)) (by decide))
  have HU0 := Lib.hid hu0
  clear hu0
  go_wp2_with fail
  refine HCl.out.mono ?_
  rintro e w1 ⟨hu1, h1⟩
  obtain ⟨rfl, _⟩ : e = .returned (.tuple #[.slice none 0 0, .slice none 0 0, .bool false]) ∧ True := by
    rcases h1 with ⟨h, _⟩ | ⟨i, j, p, q, hi, hat, _⟩
    · exact ⟨h, trivial⟩
    · exact absurd noc1 (hat.not_noc hi)
  have HU1 : Hid (Upd (fun _ => False) w w1) := HU0.out.trans (hu1.mono (fun _ _ h => h.elim))
  clear h1 hu1 HCl HU0 c1 c2 c3
  have c2 := mark2 w1 (.cells #[.int .u8 63] 5) 97
  have hu0 : Upd (fun _ => False) w1 ((((w1.alloc (.cells #[.int .u8 63] 5)).alloc (.cells #[.int .u8 97] 5 (1, 2))).alloc (.cells #[.int .u8 161] 5)).alloc
      (.cells #[.slice (some ⟨w1.heap.size, 0, none⟩) 1 1, .slice (some ⟨w1.heap.size + 1, 0, none⟩) 1 1, .slice (some ⟨w1.heap.size + 1 + 1, 0, none⟩) 1 1] 25)) := ((((Upd.refl _ w1).alloc _).alloc _).alloc _).alloc _
  have HCl := Lib.hid (clash_any 1 (some ⟨w1.heap.size + 1 + 1 + 1, 0, none⟩) 3 T2 _ _ (slL3 w1 (0, 0) (1, 2) (0, 0) 63 97 161) (fun k hk => by first | (simp; done) | (simp; omega)) (by decide) ((Hk.out.upd HU1.out id).upd hu0 id) (by have := Hg.out; have := HU1.out.size; first | (simp; done) | (simp; omega)) (by decide))
  have HU0 := Lib.hid hu0
  clear hu0
  go_wp2_with fail
  refine HCl.out.mono ?_
  rintro e w2 ⟨hu2, h2⟩
  obtain ⟨p, q, rfl, hp, hq⟩ : ∃ p q, e = .returned (.tuple #[p, q, .bool true]) ∧ w2.ownsRow 0 5 1 p 1 ([63].map Mem.u8) ∧ w2.ownsRow 0 5 1 q 1 ([161].map Mem.u8) := by
    rcases h2 with ⟨_, h⟩ | ⟨i, j, p, q, hi, hat, rfl, hp, hq, _⟩
    · exact absurd h (at2.not_noc (by decide))
    · obtain ⟨rfl, rfl⟩ := hat.uniq at2
      exact ⟨p, q, rfl, World.ownsRow.mono hp (Nat.zero_le _), World.ownsRow.mono hq (Nat.zero_le _)⟩
  have HU2 : Hid (Upd (fun _ => False) w w2) := (HU1.out.trans (HU0.out.mono (fun _ _ h => h.elim))).trans (hu2.mono (fun _ _ h => h.elim))
  obtain ⟨pa, pc, rfl⟩ := SumsW.own_form hp
  obtain ⟨qa, qc, rfl⟩ := SumsW.own_form hq
  have k1 : (convert 25 9 (.slice pa 1 pc)).run Tryd.prog w2 = .ok (.string ⟨#[63]⟩) w2 := HeldW.conv_sl (Sl.of_own hp)
  have k2 : (convert 25 9 (.slice qa 1 qc)).run Tryd.prog w2 = .ok (.string ⟨#[161]⟩) w2 := HeldW.conv_sl (Sl.of_own hq)
  clear h2 hu2 HCl HU0 c2 hp hq HU1
  by_cases h2000 : 2000 < n
  · have hI : (2000 : Int) < (n : Int) := by omega
    go_wp2
    go_ret
    exact ⟨rfl, HU2.out⟩
  · have hI : ¬ (2000 : Int) < (n : Int) := by omega
    have hel0 : ∀ i, (ts.getD i []).length ≤ 140737488351232 := Hel.out
    have HQb : Hid (∀ i, (ts.getD i []).length ≤ 140737488351232) := hel0
    have HSQ : Hid (∀ w', Upd (fun _ => False) w w' → SlE w' (.slice ao n cap) ts (fun k => k < w.heap.size)) := fun w' h => Hs_.out.upd h (fun _ _ => id)
    have HLT0 := Lib.hid (LT1.start w2 ts)
    clear hel0
    go_wp2
    clear k1 k2
    -- LOOP1
    go_loopw [11, 12, 13, 14] (fun v7 v8 i _ wr => LT1 w2 ts v7 v8 i wr) (fun _ _ i _ _ => (n - (intOf i).toNat))
    case atStart => exact HLT0.out
    case round =>
      clear HLT0
      obtain ⟨j, gs, hj, rfl, hlst, hu⟩ := hrel
      have HL := Lib.hid hlst
      have HUl := Lib.hid hu
      have HUw : Hid (Upd (fun _ => False) w wr) := HU2.out.trans (hu.mono (fun _ _ e => e.elim))
      have hjq : j ≤ n := by rw [Hnl.out]; exact hj
      clear hlst hu hj
      by_cases hlt : j < n
      · have hltI : (j : Int) < (n : Int) := by omega
        have hjt : j < ts.length := by rw [← Hnl.out]; exact hlt
        obtain ⟨ao', cap', pv, he, h3, h4⟩ := HSQ.out w (Upd.refl _ _)
        injection he with e1 e2 e3
        subst e1 e3
        clear e2
        obtain ⟨⟨pa, oa, sa⟩, rfl⟩ : ∃ ad, ao = some ad := by
          cases ao with
          | some ad => exact ⟨ad, rfl⟩
          | none => have := h3 rfl; omega
        obtain ⟨hsa, hpa, h5⟩ := h4 _ rfl
        obtain rfl : sa = none := hsa
        obtain ⟨hc, hel, hpo⟩ := h5 j hjt
        rw [add_none] at hc
        obtain ⟨q, hq⟩ : ∃ q, q = ts.getD j [] := ⟨_, rfl⟩
        obtain ⟨pj, hpj⟩ : ∃ x, x = pv j := ⟨_, rfl⟩
        rw [← hq, ← hpj] at hel
        rw [← hpj] at hc
        have hel := hel.upd HUw.out (fun _ _ _ => id)
        obtain ⟨bo, bc, hpf, _⟩ := id hel
        obtain ⟨m, hm⟩ : ∃ m, m = q.length := ⟨_, rfl⟩
        have hmb : m ≤ 140737488351232 := by have := HQb.out j; rw [← hq] at this; omega
        rw [← hm] at hpf
        subst hpf
        have HcW := Lib.hid hc
        have hc := HUw.out.cell HcW.out id
        have HRj := Lib.hid (roomy_el bo m bc q 165 wr hel (by omega))
        have Hq := Lib.hid hq
        have Hm := Lib.hid hm
        clear h3 h4 h5 hpo hel hq hm hpj hpa hjt
        go_wp2_with fail
        refine HRj.out.mono ?_
        rintro e w5 ⟨g2, rfl, hg2, hr2, hu5⟩
        have HR2 := Lib.hid hr2
        have HU5 := Lib.hid hu5
        have hg2l : g2 < w5.heap.size := hr2.lt
        have HG2 : Hid (wr.heap.size ≤ g2) := hg2
        have HL2 : Hid (Lst w5 w2.heap.size (ts.take j) gs j u11 u12) := HL.out.kept hu5
        have HF1 : Hid ((w5.alloc (.cells #[.slice (some ⟨g2, 0, none⟩) (m + 80) (m + 80)] 25)).ownsRow 0 25 1 u11 j (fvs (ts.take j) gs)) := IntsW.own_upd HL2.out.o7 ((Upd.refl (fun _ => False) w5).alloc _) (fun _ _ => id)
        clear hr2 hu5 hg2 hc HRj
        go_upto_region 13 with ((at_builtin; (refine wpList_append_q _ (o := ⟨some 80, _, _, _, _, _⟩) ?_ (.tmp 77) (.tmp 79) ?_ u11 j (fvs (ts.take j) gs) ?_ HF1.out w5.heap.size 1 (.slice (some ⟨g2, 0, none⟩) (m + 80) (m + 80)) ?_ (heap_alloc_new _ _) rfl (by omega) ?_); rfl; rfl; rfl; rfl; intro a3 c3 w3 HO3 HGr3 HA3))
        have HU3' : Hid (Upd (fun k => own u11 k) w5 w3) := ((Upd.refl (fun k => own u11 k) w5).alloc _).trans ((Upd.grown HGr3.out (fun k hk => hk) : Upd (fun k => own u11 k) _ w3).mono (fun k _ hk => .inl hk))
        have HR3 : Hid (Row w3 g2 5 ((FL q 165).map Mem.u8)) := HR2.out.upd HU3'.out (row_off HR2.out HL2.out.o7)
        have HF3 : Hid (Fls w3 w2.heap.size (ts.take j) gs) := HL2.out.fl.upd HU3'.out (fun x hx => by
          obtain ⟨i, hi, rfl⟩ := List.getElem_of_mem hx
          have h := HL2.out.fl.row i (by rw [← HL2.out.fl.len]; exact hi)
          rw [List.getD_eq_getElem?_getD, List.getElem?_eq_getElem hi] at h
          exact row_off h HL2.out.o7)
        have HP3 : Hid (w3.ownsRow 0 25 1 u12 j (pvs (ts.take j) gs)) := IntsW.own_upd HL2.out.o8 HU3'.out (fun k hk h => HL2.out.ap k h hk)
        have HN3 : Hid (∀ k, own (.slice a3 (j + 1) c3) k → own u11 k ∨ k = w5.heap.size + 1) := fun k hk => by
          rcases HA3.out with h | h
          · left; unfold own at hk ⊢; rw [← h]; exact hk
          · right; unfold own at hk; rw [h] at hk; injection hk with hk; rw [← hk]; simp
        have hs3 : w5.heap.size + 1 ≤ w3.heap.size := by have := HGr3.out.size; simpa using this
        have HUr3 : Hid (Upd (fun _ => False) w2 w3) := (HUl.out.trans (HU5.out.mono (fun _ _ e => e.elim))).trans (HU3'.out.mono (fun k _ hk => .inr (HL2.out.n7 k hk)))
        have HUw3 : Hid (Upd (fun _ => False) w w3) := HU2.out.trans (HUr3.out.mono (fun _ _ e => e.elim))
        have hc : w3.cell? ⟨pa, oa + j, none⟩ = some (.slice bo m bc) := HUw3.out.cell HcW.out id
        have HP1 : Hid ((w3.alloc (.cells #[.slice (some ⟨g2, 0, none⟩) m (m + 80)] 25)).ownsRow 0 25 1 u12 j (pvs (ts.take j) gs)) := IntsW.own_upd HP3.out ((Upd.refl (fun _ => False) w3).alloc _) (fun _ _ => id)
        have hmc : (m : Int) ≤ (m : Int) + 80 := by omega
        go_wp2_with ((at_builtin; (refine wpList_append_q _ (o := ⟨some 90, _, _, _, _, _⟩) ?_ (.tmp 81) (.tmp 89) ?_ u12 j (pvs (ts.take j) gs) ?_ HP1.out w3.heap.size 1 (.slice (some ⟨g2, 0, none⟩) m (m + 80)) ?_ (heap_alloc_new _ _) rfl (by omega) ?_); rfl; rfl; rfl; rfl; intro a4 c4 w4' HO4 HGr4 HA4))
        have hstep := HL2.out.step g2 m q Hm.out HR2.out (by have h1 := HG2.out; have h2 := HUl.out.size; omega) (fun hx => by have h1 := HL.out.fl.lt g2 hx; have h2 := HG2.out; omega) HO3.out HGr3.out HA3.out HO4.out HGr4.out HA4.out
        have HREL : Hid (LT1 w2 ts (.slice a3 (j + 1) c3) (.slice a4 (j + 1) c4) (.int .i64 ((j + 1 : Nat) : Int)) w4') := by
          obtain ⟨hs1, hs2⟩ := hstep
          refine ⟨j + 1, gs ++ [g2], by rw [← Hnl.out]; omega, rfl, ?_, (HUl.out.trans (HU5.out.mono (fun _ _ e => e.elim))).trans (hs2.mono (fun k _ e => .inr (by
            rcases e with e | e
            · exact HL2.out.n7 k e
            · exact HL2.out.n8 k e)))⟩
          rw [take_snoc ts j (by rw [← Hnl.out]; exact hlt), ← Hq.out]
          exact hs1
        clear hstep HO3 HGr3 HA3 HO4 HGr4 HA4 HR2 HU5 HL2 HF1 HR3 HF3 HP3 HN3 HUr3 HUw3 HP1 HU3' hc
        go_wp2
        go_roundw
        case rel =>
          rw [show ((j : Int) + 1) = ((j + 1 : Nat) : Int) by omega]
          exact HREL.out
        case measure => simp [intOf]; omega
      · obtain rfl : n = j := by omega
        have htk : ts.take n = ts := List.take_of_length_le (by rw [← Hnl.out]; exact Nat.le_refl _)
        rw [htk] at HL
        obtain ⟨a8, c8, rfl⟩ := IntsW.slice_form HL.out.o8
        obtain ⟨a7, c7s, rfl⟩ := IntsW.slice_form HL.out.o7
        have hnlt : ¬ ((n : Int) < (n : Int)) := by omega
        have HRc := Lib.hid (rclash_any width Hw.out ao n cap ts (fun k => k < w.heap.size) wr (HSQ.out wr HUw.out) (fun k hk => Nat.lt_of_lt_of_le hk HUw.out.size) (by omega) (fun i _ => by have := HQb.out i; omega))
        clear htk hlt hjq
        go_wp2_with fail
        refine HRc.out.mono ?_
        rintro e wc hc
        obtain ⟨okr, rp, rq, X, Y, rfl, htold, hex, hey, hox, hoy, huc⟩ := told_ref hc
        obtain ⟨ra, rc, rfl⟩ : ∃ a c, rp = .slice a X.length c := by obtain ⟨a, c, h, _⟩ := id hex; exact ⟨a, c, h⟩
        obtain ⟨sa, sc, rfl⟩ : ∃ a c, rq = .slice a Y.length c := by obtain ⟨a, c, h, _⟩ := id hey; exact ⟨a, c, h⟩
        have HTold := Lib.hid htold
        have HEx := Lib.hid hex
        have HEy := Lib.hid hey
        have HOx := Lib.hid hox
        have HOy := Lib.hid hoy
        have HUc := Lib.hid huc
        obtain ⟨xn, hxn⟩ : ∃ x, x = X.length := ⟨_, rfl⟩
        obtain ⟨yn, hyn⟩ : ∃ x, x = Y.length := ⟨_, rfl⟩
        rw [← hxn] at HEx HOx ⊢
        rw [← hyn] at HEy HOy ⊢
        have Hxn := Lib.hid hxn
        have Hyn := Lib.hid hyn
        clear hc htold hex hey hox hoy huc hxn hyn HRc
        go_wp2
        obtain ⟨w4b, hw4b⟩ : ∃ x, x = wc.alloc (.cells #[.slice none 0 0, .slice none 0 0, .int .i64 0, .bool false] 49) := ⟨_, rfl⟩
        obtain ⟨bb, hbb⟩ : ∃ x, x = wc.heap.size := ⟨_, rfl⟩
        rw [← hw4b, ← hbb]
        have hbk0 : BkW w4b bb 49 [.slice none 0 0, .slice none 0 0, .int .i64 0, .bool false] 0 [] (fun k => w4b.heap.size ≤ k ∧ k < w4b.heap.size) (fun k => w4b.heap.size ≤ k ∧ k < w4b.heap.size) := by
          have h := BkW.empty (o := 0) (show Row w4b bb 49 [.slice none 0 0, .slice none 0 0, .int .i64 0, .bool false] by rw [hw4b, hbb]; exact Row.new _ _ _) rfl rfl rfl rfl
          exact h.mono (fun _ h _ => h.elim) (fun _ h _ => h.elim)
        have hu4b : Upd (fun _ => False) wc w4b := by rw [hw4b]; exact (Upd.refl _ _).alloc _
        have hbs : w4b.heap.size = bb + 1 := by rw [hw4b, hbb]; simp
        have HLB0 : Hid (LBk w4b bb w4b) := ⟨[], _, by simp, hbk0, Upd.refl _ _⟩
        have HUl4 : Hid (Upd (fun _ => False) wr w4b) := HUc.out.trans (hu4b.mono (fun _ _ e => e.elim))
        have HUb : Hid (Upd (fun _ => False) w w4b) := HUw.out.trans (HUl4.out.mono (fun _ _ e => e.elim))
        have HLb : Hid (Lst w4b w2.heap.size ts gs n (.slice a7 n c7s) (.slice a8 n c8)) := HL.out.kept HUl4.out
        have hwc : wr.heap.size ≤ bb := by rw [hbb]; exact HUc.out.size
        have HBB : Hid (w2.heap.size ≤ bb) := Nat.le_trans HUl.out.size hwc
        have HWB : Hid (w.heap.size ≤ bb) := Nat.le_trans HUw.out.size hwc
        have Hgsb : Hid (∀ x ∈ gs, x < bb) := fun x hx => Nat.lt_of_lt_of_le (HL.out.fl.lt x hx) hwc
        have Hv7b : Hid (∀ k, own (.slice a7 n c7s) k → k < bb) := fun k hk => Nat.lt_of_lt_of_le (own_size HL.out.o7 k hk) hwc
        have Hv8b : Hid (∀ k, own (.slice a8 n c8) k → k < bb) := fun k hk => Nat.lt_of_lt_of_le (own_size HL.out.o8 k hk) hwc
        have HEx4 := Lib.hid (HEx.out.upd hu4b (fun _ _ _ h => h))
        have HEy4 := Lib.hid (HEy.out.upd hu4b (fun _ _ _ h => h))
        have Hbs := Lib.hid hbs
        have HTb : Hid (∀ (X Y : List UInt8) (ok : Bool), ClashT.Told width ts ok X Y → X.length ≤ 140737488355328 ∧ Y.length ≤ 140737488355328) := by
          intro X Y ok h
          rcases h with ⟨_, rfl, rfl, _⟩ | ⟨_, i, j, _, _, rfl, rfl⟩
          · simp
          · have h1 := HQb.out i
            have h2 := HQb.out j
            exact ⟨by unfold τf; omega, by unfold τf; omega⟩
        clear hbk0 hu4b hbs hw4b hbb HL HUl HUc hwc HUl4 HEx HEy
        go_loopw [19, 20, 21, 22] (fun i _ _ _ wr => ∃ k : Nat, k ≤ 2 ∧ i = .int .i64 k ∧ LBk w4b bb wr) (fun i _ _ _ _ => (2 - (intOf i).toNat))
        case atStart => exact ⟨0, by omega, rfl, HLB0.out⟩
        case round =>
          clear HLB0
          obtain ⟨k, hk2, rfl, K, cs, hK, hbk, hub⟩ := hrel
          have hbs := Hbs.out
          have hbB := HBB.out
          have hwB := HWB.out
          obtain ⟨w6, rfl⟩ : ∃ x : World, x = wr := ⟨_, rfl⟩
          have HUr : Hid (Upd (fun _ => False) w w6) := HUb.out.trans (hub.mono (fun j _ e => .inr (by omega)))
          have HLr : Hid (Lst w6 w2.heap.size ts gs n (.slice a7 n c7s) (.slice a8 n c8)) := HLb.out.upd hub (fun x hx e => by have := Hgsb.out x hx; omega) (fun j hj e => by have := Hv7b.out j hj; omega) (fun j hj e => by have := Hv8b.out j hj; omega)
          have HExr : Hid (El w6 (.slice ra xn rc) X) := HEx4.out.upd hub (fun hne j hj e => by have := HOx.out hne j hj; omega)
          have HEyr : Hid (El w6 (.slice sa yn sc) Y) := HEy4.out.upd hub (fun hne j hj e => by have := HOy.out hne j hj; omega)
          have HBk := Lib.hid hbk
          have HK := Lib.hid hK
          have HUbr := Lib.hid hub
          clear hbk hK hub
          by_cases hlt : k < 2
          · have hltI : (k : Int) < 2 := by omega
            have HCl := Lib.hid (clash_n width n Hnl.out a8 c8 (fun k => k < w6.heap.size) w6 (HLr.out.slL HQb.out) (fun k hk => hk) (by omega) (Hk.out.upd HUr.out id) (by have := Hg.out; have := HUr.out.size; omega) (fun i _ => by have := HQb.out i; omega))
            go_wp2_with fail
            refine HCl.out.mono ?_
            rintro e w7 hc
            obtain ⟨ok, p, q, X', Y', rfl, htold, hop, hoq, hpq, hu7⟩ := told hc
            obtain ⟨e1, e2, e3⟩ := htold.uniq HTold.out
            rw [e2] at hop
            rw [e3] at hoq
            rw [e1]
            clear e1 e2 e3 hc htold HCl
            have hs1 := Sl.of_own hop
            have hs2 := Sl.of_own hoq
            obtain ⟨va, vc, rfl⟩ := SumsW.own_form hop
            obtain ⟨ya, yc, rfl⟩ := SumsW.own_form hoq
            rw [← Hxn.out] at hop hpq hs1 ⊢
            rw [← Hyn.out] at hoq hpq hs2 ⊢
            obtain ⟨x1, hx1⟩ : ∃ x : ByteArray, x = ⟨X.toArray⟩ := ⟨_, rfl⟩
            obtain ⟨y1, hy1⟩ : ∃ x : ByteArray, x = ⟨Y.toArray⟩ := ⟨_, rfl⟩
            have k1 : (convert 25 9 (.slice va xn vc)).run Tryd.prog w7 = .ok (.string x1) w7 := by rw [hx1]; exact HeldW.conv_sl hs1
            have k2 : (convert 25 9 (.slice ya yn yc)).run Tryd.prog w7 = .ok (.string y1) w7 := by rw [hy1]; exact HeldW.conv_sl hs2
            have k3 : (convert 25 9 (.slice ra xn rc)).run Tryd.prog w7 = .ok (.string x1) w7 := by rw [hx1]; exact conv_el (HExr.out.upd hu7 (fun _ _ _ h => h))
            have k4 : (convert 25 9 (.slice sa yn sc)).run Tryd.prog w7 = .ok (.string y1) w7 := by rw [hy1]; exact conv_el (HEyr.out.upd hu7 (fun _ _ _ h => h))
            have hxx : (x1.toList == x1.toList) = true := by simp
            have hyy : (y1.toList == y1.toList) = true := by simp
            have HOP := Lib.hid hop
            have HOQ := Lib.hid hoq
            have HPQ := Lib.hid hpq
            have HU7 := Lib.hid hu7
            have HXl : Hid (xn ≤ 140737488355328) := by show _ ≤ _; rw [Hxn.out]; exact (HTb.out X Y okr HTold.out).1
            have HYl : Hid (yn ≤ 140737488355328) := by show _ ≤ _; rw [Hyn.out]; exact (HTb.out X Y okr HTold.out).2
            clear hop hoq hpq hu7 hs1 hs2 hx1 hy1
            cases okr
            all_goals
              go_wp2_with fail
              have HKp := Lib.hid (keep_any bb 0 49 cs K _ _ va xn vc X w7 (HBk.out.kept HU7.out) (by decide) (by decide) (World.ownsRow.mono HOP.out (Nat.zero_le _)) (fun j hj e => by have := (HOP.out.lt j hj).1; omega) HK.out HXl.out)
              refine HKp.out.mono ?_
              rintro e w8 ⟨rfl, u1, K1, cs1, _, _, hlen1, hb1, _, hu8⟩
              have HQ8 : Hid (w8.ownsRow 0 5 1 (.slice ya yn yc) yn (Y.map Mem.u8)) := World.ownsRow.mono (IntsW.own_upd HOQ.out hu8 (fun j hj e => by
                have h1 := (HOQ.out.lt j hj).1
                have h2 := HUbr.out.size
                rcases e with e | e
                · omega
                · omega)) (Nat.zero_le _)
              have HB1 := Lib.hid hb1
              have HU8 := Lib.hid hu8
              have HK1 := Lib.hid hlen1
              clear hb1 hu8 hlen1 HKp k1 k2 k3 k4
              go_wp2_with fail
              have HKp := Lib.hid (keep_any bb 0 49 cs1 K1 _ _ ya yn yc Y w8 HB1.out (by decide) (by decide) HQ8.out (fun j hj e => by
                rcases e with e | e
                · have := (HOQ.out.lt j hj).1; omega
                · exact HPQ.out j e hj) HK1.out HYl.out)
              refine HKp.out.mono ?_
              rintro e w9 ⟨rfl, u2, K2, cs2, _, _, hlen2, hb2, _, hu9⟩
              have HL9 : Hid (LBk w4b bb w9) := by
                have h1 := HU7.out.size
                have h4 := HUbr.out.size
                have h5 := HU8.out.size
                refine ⟨K2, cs2, hlen2, hb2.mono (fun j h3 h6 => ⟨?_, h6⟩) (fun j h3 h6 => ⟨?_, h6⟩), ?_⟩
                · rcases h3 with (h3 | h3) | h3 <;> omega
                · rcases h3 with (h3 | h3) | h3
                  · omega
                  · have := (HOP.out.lt j h3).1; omega
                  · have := (HOQ.out.lt j h3).1; omega
                · refine ((HUbr.out.trans (HU7.out.mono fun _ _ e => e.elim)).trans (HU8.out.mono fun j _ e => ?_)).trans (hu9.mono fun j _ e => ?_)
                  · rcases e with e | e
                    · exact .inl e
                    · exact .inr e.1
                  · rcases e with e | e | e
                    · exact .inl e
                    · exact .inr e.1
                    · exact .inr (by omega)
              clear hlen2 hb2 hu9 HKp HB1 HU8 HK1 HQ8
              go_wp2
              go_roundw
              case rel => exact ⟨k + 1, by omega, by go_num, HL9.out⟩
              case measure => simp [intOf]; omega
          · obtain rfl : k = 2 := by omega
            go_wp2_with fail
            obtain ⟨wD, rfl⟩ : ∃ x : World, x = w6 := ⟨_, rfl⟩
            have HGB : Hid (∀ x ∈ gs, w.heap.size ≤ x) := fun x hx => Nat.le_trans HU2.out.size (HLr.out.fl.low x hx)
            have HDs : Hid (bb + 1 ≤ wD.heap.size) := by show _ ≤ _; have := HUbr.out.size; omega
            have HgsD : Hid (∀ x ∈ gs, x < wD.heap.size) := fun x hx => by have h1 := Hgsb.out x hx; have h2 := HDs.out; omega
            have HLT3 := Lib.hid (LT3.start wD w2.heap.size ts gs HLr.out.fl)
            go_loopw [23, 24] (fun v14 i wr => LT3 wD w2.heap.size ts gs v14 i wr) (fun _ i _ => (n - (intOf i).toNat))
            case atStart => exact HLT3.out
            case round =>
              clear HLT3
              obtain ⟨j, vs, hj, rfl, hf, ho, hn, hv, hu⟩ := hrel
              have HF := Lib.hid hf
              have HO := Lib.hid ho
              have HN := Lib.hid hn
              have HV := Lib.hid hv
              have HU3 := Lib.hid hu
              have HUw : Hid (Upd (fun _ => False) w wr) := HUr.out.trans (hu.mono (fun k _ e => .inr (by have := HGB.out k e; omega)))
              have H7 : Hid (wr.ownsRow 0 25 1 (.slice a7 n c7s) n (fvs ts gs)) := IntsW.own_upd HLr.out.o7 hu (fun k hk h => (HLr.out.far k h).1 hk)
              have H8 : Hid (wr.ownsRow 0 25 1 (.slice a8 n c8) n (pvs ts gs)) := IntsW.own_upd HLr.out.o8 hu (fun k hk h => (HLr.out.far k h).2 hk)
              have hjq : j ≤ n := by rw [Hnl.out]; exact hj
              clear hf ho hn hv hu hj
              by_cases hlt : j < n
              · have hltI : (j : Int) < (n : Int) := by omega
                have hjt : j < ts.length := by rw [← Hnl.out]; exact hlt
                obtain ⟨ao', cap', pv, he, h3, h4⟩ := HSQ.out w (Upd.refl _ _)
                injection he with e1 e2 e3
                subst e1 e3
                clear e2
                obtain ⟨⟨pa, oa, sa⟩, rfl⟩ : ∃ ad, ao = some ad := by
                  cases ao with
                  | some ad => exact ⟨ad, rfl⟩
                  | none => have := h3 rfl; omega
                obtain ⟨hsa, hpa, h5⟩ := h4 _ rfl
                obtain rfl : sa = none := hsa
                obtain ⟨hc, hel, hpo⟩ := h5 j hjt
                rw [add_none] at hc
                obtain ⟨q, hq⟩ : ∃ q, q = ts.getD j [] := ⟨_, rfl⟩
                obtain ⟨pj, hpj⟩ : ∃ x, x = pv j := ⟨_, rfl⟩
                rw [← hq, ← hpj] at hel
                rw [← hpj] at hc
                obtain ⟨bo, bc, hpf, _⟩ := id hel
                obtain ⟨m, hm⟩ : ∃ m, m = q.length := ⟨_, rfl⟩
                have hmb : m ≤ 140737488351232 := by have := HQb.out j; rw [← hq] at this; omega
                rw [← hm] at hpf
                subst hpf
                have HcW := Lib.hid hc
                have HEl := Lib.hid hel
                obtain ⟨gj, hgj⟩ : ∃ x, x = gs.getD j 0 := ⟨_, rfl⟩
                have h7 := own_cell H7.out j _ (fvs_at ts gs HLr.out.fl.len j hjt)
                have h8 := own_cell H8.out j _ (pvs_at ts gs HLr.out.fl.len j hjt)
                rw [← hq, ← hm, ← hgj] at h7 h8
                obtain ⟨b7, cp7, he7, _, hc7, _⟩ := h7
                obtain ⟨b8, cp8, he8, _, hc8, _⟩ := h8
                injection he7 with e1 e2 e3
                subst e1 e3
                clear e2
                injection he8 with e1 e2 e3
                subst e1 e3
                clear e2
                have HC7 : Hid (wr.cell? ⟨b7, j, none⟩ = some (.slice (some ⟨gj, 0, none⟩) (m + 80) (m + 80))) := hc7
                have HC8 : Hid (wr.cell? ⟨b8, j, none⟩ = some (.slice (some ⟨gj, 0, none⟩) m (m + 80))) := hc8
                have hrj := HF.out.row j (by rw [mix_len]; exact hjt)
                rw [mix_at ts j hjt, ← hq, ← hgj] at hrj
                have HRj := Lib.hid hrj
                have HIn : Hid (∀ w', Upd (fun _ => False) wr w' → Calls Tryd.prog 19 #[.slice (some ⟨gj, 0, none⟩) (m + 80) (m + 80), .slice bo m bc, .int .u8 165] w' fun e w'' => e = .returned (.bool true) ∧ Upd (fun _ => False) w' w'') := by
                  show ∀ _, _
                  intro w' hu'
                  have h2 := Sl.row (cap := m + 80) (HRj.out.upd hu' id) (by rw [FL_len]; omega) (by unfold maxLen; omega)
                  rw [FL_len, ← hm] at h2
                  exact intact_el ⟨gj, 0, none⟩ (m + 80) bo m bc q 165 w' h2 ((HEl.out.upd HUw.out (fun _ _ _ => id)).upd hu' (fun _ _ _ => id)) (by omega)
                have Hq := Lib.hid hq
                have Hm := Lib.hid hm
                have Hgj := Lib.hid hgj
                have Hjt := Lib.hid hjt
                have HDj : Hid (gj < wD.heap.size) := by show _ < _; rw [hgj]; exact HgsD.out _ (getD_mem gs j (by rw [HLr.out.fl.len]; exact hjt))
                clear h3 h4 h5 hpo hel hq hm hpj hpa hjt hc hc7 hc8 hgj hrj
                go_wp2_with fail
                have HS_wr_0 : Hid (Upd (fun _ => False) wr wr.drew) := (Upd.refl _ _).drew
                refine wp_region_held_drew (S := Upd (fun _ => False) wr) (by kernel_rfl) HS_wr_0.out (fun _ => ?_)
                refine wpAnyH_take (i := 0) (oi := ⟨some 140, _, _, _, _, _⟩) (v := .slice (some ⟨b7, 0, none⟩) n c7s) rfl (by kernel_rfl) (by kernel_rfl) (by kernel_rfl) (fun _ _ _ h => h) (Or.inl ⟨by rfl, fun w hS => by go_simp⟩) HS_wr_0.out ?_
                try simp only [Act.put, List.setIfInBounds_toArray, List.set_cons_zero, List.set_cons_succ]
                refine wpAnyH_take (i := 1) (oi := ⟨some 141, _, _, _, _, _⟩) (v := .int .i64 (j : Int)) rfl (by kernel_rfl) (by kernel_rfl) (by kernel_rfl) (fun _ _ _ h => h) (Or.inl ⟨by rfl, fun w hS => by go_simp⟩) HS_wr_0.out ?_
                try simp only [Act.put, List.setIfInBounds_toArray, List.set_cons_zero, List.set_cons_succ]
                refine wpAnyH_take (i := 2) (oi := ⟨some 142, _, _, _, _, _⟩) (v := .pointer (some ⟨b7, j, none⟩)) rfl (by kernel_rfl) (by kernel_rfl) (by kernel_rfl) (fun _ _ _ h => h) (Or.inl ⟨by rfl, fun w hS => by go_simp⟩) HS_wr_0.out ?_
                try simp only [Act.put, List.setIfInBounds_toArray, List.set_cons_zero, List.set_cons_succ]
                refine wpAnyH_take (i := 3) (oi := ⟨some 143, _, _, _, _, _⟩) (v := .slice (some ⟨gj, 0, none⟩) (m + 80) (m + 80)) rfl (by kernel_rfl) (by kernel_rfl) (by kernel_rfl) (fun _ _ _ h => h) (Or.inl ⟨by rfl, fun w hS => by have c0 := hS.cell HC7.out id; go_simp⟩) HS_wr_0.out ?_
                try simp only [Act.put, List.setIfInBounds_toArray, List.set_cons_zero, List.set_cons_succ]
                refine wpAnyH_take (i := 4) (oi := ⟨some 144, _, _, _, _, _⟩) (v := .slice (some ⟨pa, oa, none⟩) n cap) rfl (by kernel_rfl) (by kernel_rfl) (by kernel_rfl) (fun _ _ _ h => h) (Or.inl ⟨by rfl, fun w hS => by go_simp⟩) HS_wr_0.out ?_
                try simp only [Act.put, List.setIfInBounds_toArray, List.set_cons_zero, List.set_cons_succ]
                refine wpAnyH_take (i := 5) (oi := ⟨some 145, _, _, _, _, _⟩) (v := .int .i64 (j : Int)) rfl (by kernel_rfl) (by kernel_rfl) (by kernel_rfl) (fun _ _ _ h => h) (Or.inl ⟨by rfl, fun w hS => by go_simp⟩) HS_wr_0.out ?_
                try simp only [Act.put, List.setIfInBounds_toArray, List.set_cons_zero, List.set_cons_succ]
                refine wpAnyH_take (i := 6) (oi := ⟨some 146, _, _, _, _, _⟩) (v := .pointer (some ⟨pa, oa + j, none⟩)) rfl (by kernel_rfl) (by kernel_rfl) (by kernel_rfl) (fun _ _ _ h => h) (Or.inl ⟨by rfl, fun w hS => by go_simp⟩) HS_wr_0.out ?_
                try simp only [Act.put, List.setIfInBounds_toArray, List.set_cons_zero, List.set_cons_succ]
                refine wpAnyH_take (i := 7) (oi := ⟨some 147, _, _, _, _, _⟩) (v := .slice bo m bc) rfl (by kernel_rfl) (by kernel_rfl) (by kernel_rfl) (fun _ _ _ h => h) (Or.inl ⟨by rfl, fun w hS => by have c0 := (HUw.out.trans (hS.mono (fun _ _ e => e.elim))).cell HcW.out id; go_simp⟩) HS_wr_0.out ?_
                try simp only [Act.put, List.setIfInBounds_toArray, List.set_cons_zero, List.set_cons_succ]
                refine wpAnyH_ready (rs := [8]) (by kernel_rfl) (by simp) ?_
                refine AllReadyH.cons rfl (fun K hK => ?_) AllReadyH.nil
                go_simp
                refine (HIn.out wr.drew HS_wr_0.out).mono ?_
                rintro e w6 ⟨rfl, hu_⟩
                have HS_wr_1 : Hid (Upd (fun _ => False) wr w6) := HS_wr_0.out.trans (hu_.mono (fun _ _ h => h.elim))
                clear hu_
                refine hK.out _ _ HS_wr_1.out (fun hHeld => ?_)
                clear hK K hHeld
                try simp only [Act.put, List.setIfInBounds_toArray, List.set_cons_zero, List.set_cons_succ]
                refine wpAnyH_take (i := 9) (oi := ⟨some 149, _, _, _, _, _⟩) (v := .bool false) rfl (by kernel_rfl) (by kernel_rfl) (by kernel_rfl) (fun _ _ _ h => h) (Or.inl ⟨by rfl, fun w hS => by go_simp⟩) HS_wr_1.out ?_
                try simp only [Act.put, List.setIfInBounds_toArray, List.set_cons_zero, List.set_cons_succ]
                refine wpAnyH_take (i := 10) (oi := ⟨some 150, _, _, _, _, _⟩) (v := .bool false) rfl (by kernel_rfl) (by kernel_rfl) (by kernel_rfl) (fun _ _ _ h => h) (Or.inl ⟨by rfl, fun w hS => by go_simp⟩) HS_wr_1.out ?_
                try simp only [Act.put, List.setIfInBounds_toArray, List.set_cons_zero, List.set_cons_succ]
                refine wpAnyH_take (i := 11) (oi := ⟨some 151, _, _, _, _, _⟩) (v := .slice (some ⟨b8, 0, none⟩) n c8) rfl (by kernel_rfl) (by kernel_rfl) (by kernel_rfl) (fun _ _ _ h => h) (Or.inl ⟨by rfl, fun w hS => by go_simp⟩) HS_wr_1.out ?_
                try simp only [Act.put, List.setIfInBounds_toArray, List.set_cons_zero, List.set_cons_succ]
                refine wpAnyH_take (i := 12) (oi := ⟨some 152, _, _, _, _, _⟩) (v := .int .i64 (j : Int)) rfl (by kernel_rfl) (by kernel_rfl) (by kernel_rfl) (fun _ _ _ h => h) (Or.inl ⟨by rfl, fun w hS => by go_simp⟩) HS_wr_1.out ?_
                try simp only [Act.put, List.setIfInBounds_toArray, List.set_cons_zero, List.set_cons_succ]
                refine wpAnyH_take (i := 13) (oi := ⟨some 153, _, _, _, _, _⟩) (v := .pointer (some ⟨b8, j, none⟩)) rfl (by kernel_rfl) (by kernel_rfl) (by kernel_rfl) (fun _ _ _ h => h) (Or.inl ⟨by rfl, fun w hS => by go_simp⟩) HS_wr_1.out ?_
                try simp only [Act.put, List.setIfInBounds_toArray, List.set_cons_zero, List.set_cons_succ]
                refine wpAnyH_take (i := 14) (oi := ⟨some 154, _, _, _, _, _⟩) (v := .slice (some ⟨gj, 0, none⟩) m (m + 80)) rfl (by kernel_rfl) (by kernel_rfl) (by kernel_rfl) (fun _ _ _ h => h) (Or.inl ⟨by rfl, fun w hS => by have c0 := hS.cell HC8.out id; go_simp⟩) HS_wr_1.out ?_
                try simp only [Act.put, List.setIfInBounds_toArray, List.set_cons_zero, List.set_cons_succ]
                refine wpAnyH_take (i := 15) (oi := ⟨some 155, _, _, _, _, _⟩) (v := .int .i64 (m : Int)) rfl (by kernel_rfl) (by kernel_rfl) (by kernel_rfl) (fun _ _ _ h => h) (Or.inl ⟨by rfl, fun w hS => by go_simp⟩) HS_wr_1.out ?_
                try simp only [Act.put, List.setIfInBounds_toArray, List.set_cons_zero, List.set_cons_succ]
                refine wpAnyH_take (i := 16) (oi := ⟨some 156, _, _, _, _, _⟩) (v := .slice (some ⟨pa, oa, none⟩) n cap) rfl (by kernel_rfl) (by kernel_rfl) (by kernel_rfl) (fun _ _ _ h => h) (Or.inl ⟨by rfl, fun w hS => by go_simp⟩) HS_wr_1.out ?_
                try simp only [Act.put, List.setIfInBounds_toArray, List.set_cons_zero, List.set_cons_succ]
                refine wpAnyH_take (i := 17) (oi := ⟨some 157, _, _, _, _, _⟩) (v := .int .i64 (j : Int)) rfl (by kernel_rfl) (by kernel_rfl) (by kernel_rfl) (fun _ _ _ h => h) (Or.inl ⟨by rfl, fun w hS => by go_simp⟩) HS_wr_1.out ?_
                try simp only [Act.put, List.setIfInBounds_toArray, List.set_cons_zero, List.set_cons_succ]
                refine wpAnyH_take (i := 18) (oi := ⟨some 158, _, _, _, _, _⟩) (v := .pointer (some ⟨pa, oa + j, none⟩)) rfl (by kernel_rfl) (by kernel_rfl) (by kernel_rfl) (fun _ _ _ h => h) (Or.inl ⟨by rfl, fun w hS => by go_simp⟩) HS_wr_1.out ?_
                try simp only [Act.put, List.setIfInBounds_toArray, List.set_cons_zero, List.set_cons_succ]
                refine wpAnyH_take (i := 19) (oi := ⟨some 159, _, _, _, _, _⟩) (v := .slice bo m bc) rfl (by kernel_rfl) (by kernel_rfl) (by kernel_rfl) (fun _ _ _ h => h) (Or.inl ⟨by rfl, fun w hS => by have c0 := (HUw.out.trans (hS.mono (fun _ _ e => e.elim))).cell HcW.out id; go_simp⟩) HS_wr_1.out ?_
                try simp only [Act.put, List.setIfInBounds_toArray, List.set_cons_zero, List.set_cons_succ]
                refine wpAnyH_take (i := 20) (oi := ⟨some 160, _, _, _, _, _⟩) (v := .int .i64 (m : Int)) rfl (by kernel_rfl) (by kernel_rfl) (by kernel_rfl) (fun _ _ _ h => h) (Or.inl ⟨by rfl, fun w hS => by go_simp⟩) HS_wr_1.out ?_
                try simp only [Act.put, List.setIfInBounds_toArray, List.set_cons_zero, List.set_cons_succ]
                refine wpAnyH_take (i := 21) (oi := ⟨some 161, _, _, _, _, _⟩) (v := .bool false) rfl (by kernel_rfl) (by kernel_rfl) (by kernel_rfl) (fun _ _ _ h => h) (Or.inl ⟨by rfl, fun w hS => by go_simp⟩) HS_wr_1.out ?_
                try simp only [Act.put, List.setIfInBounds_toArray, List.set_cons_zero, List.set_cons_succ]
                refine wpAnyH_take (i := 22) (oi := ⟨some 162, _, _, _, _, _⟩) (v := .bool false) rfl (by kernel_rfl) (by kernel_rfl) (by kernel_rfl) (fun _ _ _ h => h) (Or.inl ⟨by rfl, fun w hS => by go_simp⟩) HS_wr_1.out ?_
                try simp only [Act.put, List.setIfInBounds_toArray, List.set_cons_zero, List.set_cons_succ]
                refine wpAnyH_done (by kernel_rfl) ?_ _
                have HU6 : Hid (Upd (fun _ => False) wr w6) := HS_wr_1.out
                have cp : w6.cell? ⟨b8, j, none⟩ = some (.slice (some ⟨gj, 0, none⟩) m (m + 80)) := HU6.out.cell HC8.out id
                have HTu := Lib.hid (turned_own gj m (m + 80) (FL q 165) w6 (HRj.out.upd HU6.out id) (by rw [FL_len]; have := Hm.out; omega) (by omega) (by unfold maxLen; omega) (by omega))
                clear HIn HEl HcW HRj
                go_wp2_with fail
                refine HTu.out.mono ?_
                rintro e w7 ⟨lv, rfl, hown7, hnew7, hrow7, hu7⟩
                rw [(turned_FL q m Hm.out).1] at hown7
                rw [(turned_FL q m Hm.out).2] at hrow7
                obtain ⟨lo, lc, rfl⟩ := SumsW.own_form hown7
                have hfl : (flipB q).length = m := by rw [flipB_len]; exact Hm.out.symm
                have HS7 : Hid (Sl w7 (.slice lo (flipB q).length lc) (flipB q)) := Sl.of_own hown7
                rw [hfl] at hown7 hnew7 HS7 ⊢
                have HOw7 := Lib.hid hown7
                have HN7 := Lib.hid hnew7
                have HR7 := Lib.hid hrow7
                have HU7 := Lib.hid hu7
                have HO7 : Hid ((w7.alloc (.cells #[.slice lo m lc] 25)).ownsRow 0 25 1 u23 j vs) :=
                  IntsW.own_upd (IntsW.own_upd (IntsW.own_upd HO.out HU6.out (fun _ _ => id)) hu7 (fun k hk e => by have h1 := HN.out k hk; have h2 := HDj.out; omega)) ((Upd.refl (fun _ => False) w7).alloc _) (fun _ _ => id)
                clear hown7 hnew7 hrow7 hu7 hfl HTu cp
                go_wp2_with ((at_builtin; (refine wpList_append_q _ (o := ⟨some 170, _, _, _, _, _⟩) ?_ (.tmp 163) (.tmp 169) ?_ u23 j vs ?_ HO7.out w7.heap.size 1 (.slice lo m lc) ?_ (heap_alloc_new _ _) rfl (by omega) ?_); rfl; rfl; rfl; rfl; intro a4 c4 w8 HO8 HGr8 HA8))
                have HREL : Hid (LT3 wD w2.heap.size ts gs (.slice a4 (j + 1) c4) (.int .i64 ((j + 1 : Nat) : Int)) w8) :=
                  LT3.step HgsD.out Hjt.out HF.out HO.out HN.out HV.out HU3.out HU6.out (by rw [← Hgj.out]; exact HU7.out) (by rw [← Hgj.out, ← Hq.out]; exact HR7.out) (by rw [← Hq.out]; exact HS7.out) HN7.out (own_size HOw7.out) HO8.out HGr8.out HA8.out
                clear HO8 HGr8 HA8 HO7 HOw7 HN7 HR7 HU7 HS7 HU6
                go_wp2
                go_roundw
                case rel =>
                  rw [show ((j : Int) + 1) = ((j + 1 : Nat) : Int) by omega]
                  repeat apply Exists.intro
                  exact ⟨HREL.out, rfl⟩
                case measure => simp [intOf]; omega
              · obtain rfl : n = j := by omega
                have hmx := mix_all ts n Hnl.out
                rw [hmx] at HF
                have HCn : Hid ((ts.map flipB).length = n) := by show _ = _; rw [List.length_map]; exact Hnl.out.symm
                have HCb : Hid (∀ i, ((ts.map flipB).getD i []).length ≤ 140737488351232) := fun i => by
                  rcases Nat.lt_or_ge i ts.length with h | h
                  · rw [List.getD_eq_getElem?_getD, List.getElem?_map, List.getElem?_eq_getElem h]
                    have h2 := HQb.out i
                    rw [List.getD_eq_getElem?_getD, List.getElem?_eq_getElem h] at h2
                    simp only [Option.map_some, Option.getD_some] at h2 ⊢
                    rw [flipB_len]
                    omega
                  · rw [List.getD_eq_getElem?_getD, List.getElem?_eq_none (by rw [List.length_map]; exact h)]
                    exact Nat.zero_le _
                have HLf : Hid (Lst wr w2.heap.size (ts.map flipB) gs n (.slice a7 n c7s) (.slice a8 n c8)) :=
                  ⟨HF.out, HCn.out.symm, by rw [fvs_flipB]; exact H7.out, by rw [pvs_flipB]; exact H8.out, HLr.out.n7, HLr.out.n8, HLr.out.ap⟩
                obtain ⟨a14, c14, rfl⟩ := IntsW.slice_form HO.out
                have HS14 : Hid (OfW.SlL wr (.slice a14 n c14) (ts.map flipB) (fun k => k < wr.heap.size)) := LT3.done Hnl.out HO.out HV.out
                have HBw : Hid (BkW wr bb 49 cs 0 K (fun k => w4b.heap.size ≤ k ∧ k < wD.heap.size) (fun k => w4b.heap.size ≤ k ∧ k < wD.heap.size)) :=
                  HBk.out.upd HU3.out (fun h => by have := Hgsb.out bb h; omega) (fun k h1 _ h2 => by have := Hgsb.out k h2; omega) (fun k h1 _ h2 => by have := Hgsb.out k h2; omega)
                have HwD : Hid (wD.heap.size ≤ wr.heap.size) := HU3.out.size
                have HRc := Lib.hid (rclash_any width Hw.out a14 n c14 (ts.map flipB) (fun k => k < wr.heap.size) wr (RefOf.SlL.toE HS14.out) (fun k hk => hk) (by omega) (fun i _ => by have := HCb.out i; omega))
                clear hmx hlt HS14 HF HO HN HV
                go_wp2_with fail
                refine HRc.out.mono ?_
                rintro e wc hc
                obtain ⟨ok3, rp3, rq3, X3, Y3, rfl, htold, hex, hey, hox, hoy, huc⟩ := told_ref hc
                obtain ⟨ra3, rc3, rfl⟩ : ∃ a c, rp3 = .slice a X3.length c := by obtain ⟨a, c, h, _⟩ := id hex; exact ⟨a, c, h⟩
                obtain ⟨sa3, sc3, rfl⟩ : ∃ a c, rq3 = .slice a Y3.length c := by obtain ⟨a, c, h, _⟩ := id hey; exact ⟨a, c, h⟩
                obtain ⟨x3, hx3⟩ : ∃ x, x = X3.length := ⟨_, rfl⟩
                obtain ⟨y3, hy3⟩ : ∃ x, x = Y3.length := ⟨_, rfl⟩
                rw [← hx3] at hex ⊢
                rw [← hy3] at hey ⊢
                have HTold3 := Lib.hid htold
                have HEx3 := Lib.hid hex
                have HEy3 := Lib.hid hey
                have HUc3 := Lib.hid huc
                have Hx3 := Lib.hid hx3
                have Hy3 := Lib.hid hy3
                have HUw3 : Hid (Upd (fun _ => False) w wc) := HUw.out.trans (huc.mono (fun _ _ e => e.elim))
                have HCl := Lib.hid (clash_n width n HCn.out.symm a8 c8 (fun k => k < wc.heap.size) wc ((HLf.out.kept huc).slL HCb.out) (fun k hk => hk) (by omega) (Hk.out.upd HUw3.out id) (by have := Hg.out; have := HUw3.out.size; omega) (fun i _ => by have := HCb.out i; omega))
                clear hc htold hex hey hox hoy huc hx3 hy3 HRc
                go_wp2_with fail
                refine HCl.out.mono ?_
                rintro e w9 hc
                obtain ⟨ok, p, q, X', Y', rfl, htold, hop, hoq, hpq, hu9⟩ := told hc
                obtain ⟨e1, e2, e3⟩ := htold.uniq HTold3.out
                rw [e2] at hop
                rw [e3] at hoq
                rw [e1]
                clear e1 e2 e3 hc htold HCl
                have hs1 := Sl.of_own hop
                have hs2 := Sl.of_own hoq
                obtain ⟨va, vc, rfl⟩ := SumsW.own_form hop
                obtain ⟨ya, yc, rfl⟩ := SumsW.own_form hoq
                rw [← Hx3.out] at hop hs1 ⊢
                rw [← Hy3.out] at hoq hs2 ⊢
                obtain ⟨x1, hx1⟩ : ∃ x : ByteArray, x = ⟨X3.toArray⟩ := ⟨_, rfl⟩
                obtain ⟨y1, hy1⟩ : ∃ x : ByteArray, x = ⟨Y3.toArray⟩ := ⟨_, rfl⟩
                have k1 : (convert 25 9 (.slice va x3 vc)).run Tryd.prog w9 = .ok (.string x1) w9 := by rw [hx1]; exact HeldW.conv_sl hs1
                have k2 : (convert 25 9 (.slice ya y3 yc)).run Tryd.prog w9 = .ok (.string y1) w9 := by rw [hy1]; exact HeldW.conv_sl hs2
                have k3 : (convert 25 9 (.slice ra3 x3 rc3)).run Tryd.prog w9 = .ok (.string x1) w9 := by rw [hx1]; exact conv_el (HEx3.out.upd hu9 (fun _ _ _ h => h))
                have k4 : (convert 25 9 (.slice sa3 y3 sc3)).run Tryd.prog w9 = .ok (.string y1) w9 := by rw [hy1]; exact conv_el (HEy3.out.upd hu9 (fun _ _ _ h => h))
                have hxx : (x1.toList == x1.toList) = true := by simp
                have hyy : (y1.toList == y1.toList) = true := by simp
                have HUwE : Hid (Upd (fun _ => False) wr w9) := HUc3.out.trans (hu9.mono (fun _ _ e => e.elim))
                have HUWe : Hid (Upd (fun _ => False) w w9) := HUw.out.trans (HUwE.out.mono (fun _ _ e => e.elim))
                have HLe : Hid (Lst w9 w2.heap.size (ts.map flipB) gs n (.slice a7 n c7s) (.slice a8 n c8)) := HLf.out.kept HUwE.out
                have HW4E : Hid (w4b.heap.size ≤ w9.heap.size) := by show _ ≤ _; have h1 := HUwE.out.size; have h2 := HwD.out; have h3 := HDs.out; have h4 := Hbs.out; omega
                have HB4 : Hid (LB4 w4b w9 bb n gs (.int .i64 0) w9) := by
                  have h1 := HUwE.out.size
                  have h2 := HwD.out
                  exact ⟨0, K, cs, Nat.zero_le _, rfl, HK.out, (HBw.out.kept HUwE.out).mono (fun k h3 _ => ⟨h3.1, by have := h3.2; omega⟩) (fun k h3 _ => .inl ⟨h3.1, by have := h3.2; omega⟩), Upd.refl _ _⟩
                clear hop hoq hpq hu9 hs1 hs2 hx1 hy1 HEx3 HEy3 HTold3 HBw HLf HK HUc3 HUw3
                cases ok3
                all_goals
                  go_wp2_with fail
                  clear k1 k2 k3 k4 hxx hyy
                  go_loopw [25] (fun i wr => LB4 w4b w9 bb n gs i wr) (fun i _ => (n - (intOf i).toNat))
                  case atStart => exact HB4.out
                  case round =>
                    clear HB4
                    obtain ⟨j, K4, cs4, hj4, rfl, hK4, hb4, hu4⟩ := hrel
                    have HK4 := Lib.hid hK4
                    have HBk4 := Lib.hid hb4
                    have HU4 := Lib.hid hu4
                    have hbs := Hbs.out
                    have hsz4 := hu4.size
                    have HUn : Hid (Upd (fun _ => False) w wr) := HUWe.out.trans (hu4.mono (fun k _ e => .inr (by omega)))
                    have HLn : Hid (Lst wr w2.heap.size (ts.map flipB) gs n (.slice a7 n c7s) (.slice a8 n c8)) :=
                      HLe.out.upd hu4 (fun x hx e => by have := Hgsb.out x hx; omega) (fun k hk e => by have := Hv7b.out k hk; omega) (fun k hk e => by have := Hv8b.out k hk; omega)
                    clear hK4 hb4 hu4
                    by_cases hlt : j < n
                    · have hltI : (j : Int) < (n : Int) := by omega
                      have hjt : j < (ts.map flipB).length := by rw [HCn.out]; exact hlt
                      have hgl : j < gs.length := by rw [HLn.out.fl.len]; exact hjt
                      obtain ⟨gj, hgj⟩ : ∃ x, x = gs.getD j 0 := ⟨_, rfl⟩
                      obtain ⟨q, hq⟩ : ∃ q, q = (ts.map flipB).getD j [] := ⟨_, rfl⟩
                      obtain ⟨m, hm⟩ : ∃ m, m = q.length := ⟨_, rfl⟩
                      have hmb : m ≤ 140737488351232 := by have := HCb.out j; rw [← hq] at this; omega
                      have h7 := own_cell HLn.out.o7 j _ (fvs_at (ts.map flipB) gs HLn.out.fl.len j hjt)
                      rw [← hq, ← hm, ← hgj] at h7
                      obtain ⟨b7, cp7, he7, _, hc7, _⟩ := h7
                      injection he7 with e1 e2 e3
                      subst e1 e3
                      clear e2
                      have hc7 : wr.cell? ⟨b7, j, none⟩ = some (.slice (some ⟨gj, 0, none⟩) (m + 80) (m + 80)) := hc7
                      have hrj := HLn.out.fl.row j hjt
                      rw [← hq, ← hgj] at hrj
                      have hgm : gj ∈ gs := by rw [hgj]; exact getD_mem gs j hgl
                      have hgb := Hgsb.out gj hgm
                      have hnt : gj ∉ gs.take j := by rw [hgj]; exact not_taken gs HLn.out.fl.nd j hgl
                      have HKp := Lib.hid (keep_any bb 0 49 cs4 K4 _ _ (some ⟨gj, 0, none⟩) (m + 80) (m + 80) (FL q 165) wr HBk4.out (by decide) (by decide) (own_full hrj (by rw [FL_len, hm]) (by omega)) (fun k hk e => by
                        have h1 := WriteW.own_at hk
                        subst h1
                        rcases e with e | e
                        · omega
                        · exact hnt e) HK4.out (by omega))
                      have Hgj := Lib.hid hgj
                      have Hgl := Lib.hid hgl
                      clear hrj hnt hgj hq hm hjt hgl
                      go_wp2_with fail
                      refine HKp.out.mono ?_
                      rintro e w5 ⟨rfl, u, K', cs', hsf, hne, hlen', hb', hbut, hu'⟩
                      have HREL : Hid (LB4 w4b w9 bb n gs (.int .i64 ((j + 1 : Nat) : Int)) w5) := by
                        refine ⟨j + 1, K', cs', by omega, rfl, hlen', hb'.mono (fun k h3 h5 => ⟨?_, h5⟩) (fun k h3 h5 => ?_), HU4.out.trans (hu'.mono fun k _ e => ?_)⟩
                        · rcases h3 with h3 | h3
                          · exact h3.1
                          · have := HU4.out.size; have := HW4E.out; omega
                        · rcases h3 with (h3 | h3) | h3
                          · exact .inl ⟨h3.1, h5⟩
                          · right; rw [take_snocN gs j Hgl.out]; exact List.mem_append.2 (.inl h3)
                          · right; rw [take_snocN gs j Hgl.out, ← Hgj.out, WriteW.own_at h3]; exact List.mem_append.2 (.inr (List.mem_singleton.2 rfl))
                        · rcases e with e | e
                          · exact .inl (.inl e)
                          · exact .inl (.inr e.1)
                      clear hsf hne hlen' hb' hbut hu' HKp hc7 hgm
                      go_wp2
                      go_roundw
                      case rel =>
                        rw [show ((j : Int) + 1) = ((j + 1 : Nat) : Int) by omega]
                        exact HREL.out
                      case measure => simp [intOf]; omega
                    · obtain rfl : n = j := by omega
                      have hnlt4 : decide ((n : Int) < (n : Int)) = false := by simp
                      have HAp := Lib.hid (BookA.apart_any bb 0 49 cs4 K4 _ _ wr HBk4.out (by decide) (by decide) HK4.out)
                      clear hlt
                      go_wp2_with fail
                      refine HAp.out.mono ?_
                      rintro e w12 ⟨rfl, _, hu12⟩
                      have HU12 : Hid (Upd (fun _ => False) w w12) := HUn.out.trans (hu12.mono (fun k _ e => .inr (by
                        have h2 := HBB.out
                        have h3 := HWB.out
                        rcases e with e | (e | e)
                        · omega
                        · omega
                        · have := HGB.out k (List.mem_of_mem_take e); omega)))
                      clear hu12
                      go_wp2_with fail
                      go_ret
                      exact ⟨rfl, HU12.out⟩
    -- END LOOP1
end Go.Proofs.YtiglaeipbcmlnaaDoor.ClashD
