/-
  docketbook.Book[byte]: Keep.
-/
import Derived.Test.YtgfdnljblfkhkabDoorBookM
import Derived.BigQuiet
import Derived.Deep.RegionLaw
import Derived.Deep.LoopGhost
import Derived.Deep.CutBlock
import Derived.Deep.DeepCutAuto
import Derived.StillTailTactics
namespace Go.Proofs.YtgfdnljblfkhkabDoor.BookK
open Go.RowKit Sha Mem RowW CopyW BookW OffR BookM
set_option linter.unusedVariables false
set_option linter.unusedSimpArgs false

def KeepAt (w : World) (b : Nat) (T : TypeId) (cs : List Value) (o : Nat) (K : List Ent) (R O : Nat → Prop) (v : Value) (xs : List UInt8) (e : Ending) (w' : World) : Prop :=
  e = .returned (.tuple #[]) ∧ ∃ u K' cs', K' <:+ K ++ [⟨v, u, xs⟩] ∧ K' ≠ [] ∧ K'.length ≤ 4000 ∧ BkW w' b T cs' o K' (fun k => R k ∨ w.heap.size ≤ k) (fun k => O k ∨ own v k) ∧ But o cs cs' ∧ Upd (fun k => k = b ∨ R k) w w'

/-- behind the copy -/
def Push (w w3 : World) (b : Nat) (T : TypeId) (cs : List Value) (o : Nat) (K : List Ent) (R O : Nat → Prop) (lv wv : Value) (hv : Int) (v : Value) (xs : List UInt8) (lv2 : Value) (w7 : World) : Prop :=
  ∃ u wv2, Upd (fun k => k = b ∨ Mem.own wv k) w3 w7 ∧ Row w7 b T ((cs.set o lv2).set (o + 1) wv2) ∧ OffR w7 22 wv2 (K.map Ent.u ++ [u]) ∧ (∀ k, Mem.own wv2 k → Mem.own wv k ∨ w3.heap.size ≤ k) ∧
    w7.ownsRow 0 5 1 u xs.length (xs.map u8) ∧ (∀ k, Mem.own u k → w3.heap.size ≤ k)

def LKeep (w : World) (b : Nat) (T : TypeId) (cs : List Value) (o : Nat) (K : List Ent) (R O : Nat → Prop) (v : Value) (g : Nat) (wr : World) : Prop :=
  ∃ K' cs' lv wv hv, g = K'.length ∧ K' <:+ K ∧ K' ≠ [] ∧ Bk wr b T cs' o K' (fun k => R k ∨ w.heap.size ≤ k) (fun k => O k ∨ Mem.own v k) lv wv hv ∧ But o cs cs' ∧ Upd (fun k => k = b ∨ R k) w wr

set_option maxHeartbeats 4000000 in
set_option maxRecDepth 100000 in
theorem keep_any (b o : Nat) (T : TypeId) (cs : List Value) (K : List Ent) (R O : Nat → Prop) (ao : Option Addr) (n cap : Nat) (xs : List UInt8) (w : World) (hk : BkW w b T cs o K R O) (hT : T ≠ 22) (hT8 : T ≠ 5)
    (hv : w.ownsRow 0 5 1 (.slice ao n cap) n (xs.map u8)) (hnew : ∀ k, own (.slice ao n cap) k → ¬ O k) (hlen : K.length ≤ 4000) (hn : n ≤ 140737488355328) :
    Calls Tryd.prog 14 #[.pointer (some ⟨b, o, none⟩), .slice ao n cap] w (KeepAt w b T cs o K R O (.slice ao n cap) xs) := by
  obtain ⟨lv, wv, hv0, hbk⟩ := hk
  have hnx : n = xs.length := by have := hv.1; simpa using this.symm
  have hrow := hbk.row
  have c0 : w.cell? ⟨b, o, none⟩ = some lv := by rw [hrow.cell]; exact hbk.c0
  have f0 := hrow.frozen o
  have HBk := Lib.hid hbk
  have Hv := Lib.hid hv
  have Hnew := Lib.hid hnew
  have Hlen := Lib.hid hlen
  have Hnx := Lib.hid hnx
  have HT := Lib.hid hT
  have HT8 := Lib.hid hT8
  have Hn := Lib.hid hn
  clear hbk hv hnew hlen hnx hT hT8 hrow hn
  go_enter Tryd.func14, Tryd.ntmps14
  go_upto_region 1 with ((with_reducible refine wpList_append_off (o := ⟨some 11, _, _, _, _, _⟩) _ ?_ (.tmp 8) (.tmp 10) ?_ lv (.slice ao n cap) (K.map Ent.v) w.heap.size 1 ?_ (HBk.out.lrow.upd ((Upd.refl (fun _ => False) _).alloc _) (fun _ _ => id)) ?_ (heap_alloc_new _ _) (fun h => by have := (HBk.out.lrow.lt h).1; omega) rfl (by rw [List.length_map]; have := Hlen.out; omega) (K.length + 1) (by rw [List.length_map]) ?_); rfl; rfl; rfl; rfl; intro lo2 lc2 w2 HL2 HU2 HN2; have HR2 : Hid (Row w2 b T cs) := (HBk.out.row.alloc _).upd HU2.out (fun h => off_far HBk.out.row HT.out HBk.out.lrow h rfl); have c2 : w2.cell? ⟨b, o, none⟩ = some lv := (by rw [HR2.out.cell]; exact HBk.out.c0); have f2 := HR2.out.frozen o)
  obtain ⟨w3, hw3⟩ : ∃ x, x = w2.setCell ⟨b, o, none⟩ (.slice lo2 (K.length + 1) lc2) := ⟨_, rfl⟩
  rw [← hw3]
  have HR3 : Hid (Row w3 b T (cs.set o (.slice lo2 (K.length + 1) lc2))) := by show Row _ _ _ _; rw [hw3]; exact HR2.out.set o _
  have HU3 : Hid (Upd (fun k => k = b ∨ own lv k) w w3) := by
    show Upd _ _ _
    rw [hw3]
    exact (((Upd.refl (fun k => k = b ∨ own lv k) w).alloc _).trans (HU2.out.mono (fun k _ e => .inl (.inr e)))).setCell (.inl (.inl rfl)) _
  have HL3 : Hid (OffR w3 22 (.slice lo2 (K.length + 1) lc2) (K.map Ent.v ++ [.slice ao n cap])) := by
    show OffR _ _ _ _
    rw [hw3]
    exact HL2.out.upd (Upd.setCell (S := fun k => k = b) (Upd.refl _ w2) (.inl rfl) _) (fun k hk e => off_far HR2.out HT.out HL2.out hk e)
  have HN3 : Hid (∀ k, own (.slice lo2 (K.length + 1) lc2) k → own lv k ∨ w.heap.size ≤ k) := fun k hk => (HN2.out k hk).imp id (fun h => by simp at h; omega)
  have HW3 : Hid (OffR w3 22 wv (K.map Ent.u)) := HBk.out.wrow.upd HU3.out (fun k hk e => e.elim (fun e => off_far HBk.out.row HT.out HBk.out.wrow hk e) (fun e => HBk.out.lw k e hk))
  have HV3 : Hid (Sl w3 (.slice ao n cap) xs) := (Sl.of_own (show w.ownsRow 0 5 1 (.slice ao n cap) xs.length (xs.map Mem.u8) by rw [← Hnx.out]; exact Hv.out)).upd HU3.out (fun k hk e => e.elim (fun e => own_far HBk.out.row HT8.out Hv.out hk e) (fun e => own_off Hv.out HBk.out.lrow hk e))
  have c3 : w3.cell? ⟨b, o + 1, none⟩ = some wv := by rw [HR3.out.cell, List.getElem?_set_ne (by omega)]; exact HBk.out.c1
  have f3 := HR3.out.frozen (o + 1)
  clear hw3 HL2 HU2 HN2 HR2 c2 f2 c0 f0
  go_cut [2] (fun s2 wx => Push w w3 b T cs o K R O lv wv hv0 (.slice ao n cap) xs (.slice lo2 (K.length + 1) lc2) wx)
  case first =>
    go_region_law (first
      | ((refine step_copy_nil _ (by rfl) _ _ (by rfl) (by rfl) xs (.slice ao n cap) (by rfl) (HV3.out.upd ((Upd.refl (fun _ => False) _).drew) (fun _ _ => id)) (by rw [← Hnx.out]; exact Hn.out) n Hnx.out ?_); intro uo uc w4 HO4 HU4 HN4; have HU5 : Hid (Upd (fun _ => False) w3 w4) := ((Upd.refl _ w3).drew).trans (HU4.out.mono (fun _ _ h => h.elim)); have c4 : w4.cell? ⟨b, o + 1, none⟩ = some wv := HU5.out.cell c3 id; have c5 : (w4.alloc (.cells #[.slice uo n uc] 22)).cell? ⟨b, o + 1, none⟩ = some wv := ((Upd.refl (fun _ => False) w4).alloc _).cell c4 id)
      | ((refine step_append_off _ (by rfl) _ _ (by rfl) wv (.slice uo n uc) (K.map Ent.u) w4.heap.size 1 (by rfl) (HW3.out.upd (HU5.out.alloc _) (fun _ _ => id)) (by rfl) (heap_alloc_new _ _) (fun h => by have := (HW3.out.lt h).1; have := HU5.out.size; omega) rfl (by rw [List.length_map]; have := Hlen.out; omega) (K.length + 1) (by rw [List.length_map]) ?_); intro lo6 lc6 w6 HL6 HU6 HN6; have HR6 : Hid (Row w6 b T (cs.set o (.slice lo2 (K.length + 1) lc2))) := ((HR3.out.upd HU5.out id).alloc _).upd HU6.out (fun h => off_far HR3.out HT.out HW3.out h rfl); have c6 : w6.cell? ⟨b, o + 1, none⟩ = some wv := (HR6.out.cell _).trans ((HR3.out.cell _).symm.trans c3); have f6 := HR6.out.frozen (o + 1)))
    all_goals go_wp2_with fail
    all_goals go_meet
    all_goals
      have hu6 : Upd (fun k => k = b ∨ own wv k) w3 w6 := ((HU5.out.mono (fun _ _ h => h.elim)).alloc _).trans (HU6.out.mono (fun k _ e => .inl (.inr e)))
      refine ⟨.slice uo n uc, .slice lo6 (K.length + 1) lc6, hu6.setCell (.inl (.inl rfl)) _, HR6.out.set (o + 1) _, HL6.out.upd (Upd.setCell (S := fun k => k = b) (Upd.refl _ w6) (.inl rfl) _) (fun k hk e => off_far HR6.out HT.out HL6.out hk e), fun k hk => (HN6.out k hk).imp id (fun h => by have := HU5.out.size; simp at h; omega), ?_, fun k hk => HN4.out k hk⟩
      rw [← Hnx.out]
      have h4 : w6.ownsRow 0 5 1 (.slice uo n uc) n (xs.map Mem.u8) := IntsW.own_upd (HO4.out.alloc _) HU6.out (fun k hk e => by have := (HW3.out.lt e).1; have := HN4.out k hk; simp at this; omega)
      exact IntsW.own_upd h4 (Upd.setCell (S := fun k => k = b) (Upd.refl _ w6) (.inl rfl) _) (fun k hk e => own_far HR6.out HT8.out h4 hk e)
  case rest =>
    obtain ⟨u, wv2, hu7, row7, r7, n7, u7, nu⟩ := hcut
    have hp := Bk.push HBk.out HT.out HT8.out (show w.ownsRow 0 5 1 (.slice ao n cap) xs.length (xs.map Mem.u8) by rw [← Hnx.out]; exact Hv.out) Hnew.out (by rw [← Hnx.out]; exact Hn.out) HU3.out HR3.out HL3.out HN3.out hu7 row7 r7 n7 u7 nu
    obtain ⟨E, hE⟩ : ∃ x : Ent, x = ⟨.slice ao n cap, u, xs⟩ := ⟨_, rfl⟩
    rw [← hE] at hp
    obtain ⟨cs7, hcs7⟩ : ∃ x, x = (cs.set o (.slice lo2 (K.length + 1) lc2)).set (o + 1) wv2 := ⟨_, rfl⟩
    have hbut : But o cs cs7 := by rw [hcs7]; exact ((But.refl o cs).set o (by omega) _).set (o + 1) (by omega) _
    rw [← hcs7] at hp
    obtain ⟨hb7, hU7⟩ := hp
    have HL0 : Hid (∀ x w', Bk w' b T (cs7.set (o + 2) (.int .i64 x)) o (K ++ [E]) (fun k => R k ∨ w.heap.size ≤ k) (fun k => O k ∨ own (.slice ao n cap) k) (.slice lo2 (K.length + 1) lc2) wv2 x → Upd (fun k => k = b ∨ R k) w w' → LKeep w b T cs o (K ++ [E]) R O (.slice ao n cap) (K.length + 1) w') := fun x w' h1 h2 =>
      ⟨K ++ [E], _, _, _, _, by simp, List.suffix_refl _, by simp, h1, hbut.set (o + 2) (by omega) _, h2⟩
    have c72 : wc.cell? ⟨b, o + 2, none⟩ = some (.int .i64 hv0) := by rw [hb7.row.cell]; exact hb7.c2
    have f72 := hb7.row.frozen (o + 2)
    have HTn : Hid (∀ x, Bk (wc.setCell ⟨b, o + 2, none⟩ (.int .i64 x)) b T (cs7.set (o + 2) (.int .i64 x)) o (K ++ [E]) (fun k => R k ∨ w.heap.size ≤ k) (fun k => O k ∨ own (.slice ao n cap) k) (.slice lo2 (K.length + 1) lc2) wv2 x) := fun x => by
      have l2 : o + 2 < cs7.length := (List.getElem?_eq_some_iff.1 hb7.c2).1
      exact hb7.turn (Upd.setCell (S := fun k => k = b) (Upd.refl _ wc) (.inl rfl) _) HT.out HT8.out (hb7.row.set _ _) (by rw [List.getElem?_set_ne (by omega)]; exact hb7.c0) (by rw [List.getElem?_set_ne (by omega)]; exact hb7.c1) (by rw [List.getElem?_set_self l2]) (by rw [List.getElem?_set_ne (by omega)]; exact hb7.c3) (List.suffix_refl _) hb7.lrow hb7.wrow (fun _ h => h) (fun _ h => h)
    have HU7 := Lib.hid hU7
    have HE := Lib.hid hE
    clear hu7 row7 r7 n7 u7 nu hE hcs7 hbut hb7 hU7 c3 f3 HR3 HU3 HL3 HN3 HW3 HV3
    go_wp2
    go_loopg [] (K.length + 1) (fun g wr => LKeep w b T cs o (K ++ [E]) R O (.slice ao n cap) g wr)
    case atStart => exact HL0.out _ _ (HTn.out _) (HU7.out.setCell (.inl (.inl rfl)) _)
    case round =>
      obtain ⟨K', cs', lv', wv', hv', hg, hsuf, hne, hb, hbut, hu⟩ := hrel
      clear HTn HU7 HL0
      obtain ⟨la, lc, hlv, hl1, hl2⟩ := hb.lrow.form
      rw [List.length_map, ← hg] at hlv hl1
      subst hlv
      have c0 : wr.cell? ⟨b, o, none⟩ = some (.slice la gk lc) := by rw [hb.row.cell]; exact hb.c0
      have c2 : wr.cell? ⟨b, o + 2, none⟩ = some (.int .i64 hv') := by rw [hb.row.cell]; exact hb.c2
      have h0g : 0 < gk := by rw [hg]; exact List.length_pos_iff.2 hne
      have HB := Lib.hid hb
      have HG := Lib.hid hg
      have HSf := Lib.hid hsuf
      have HNe := Lib.hid hne
      have HBut := Lib.hid hbut
      have HU := Lib.hid hu
      have HC1 := Lib.hid hl1
      have HC2 := Lib.hid hl2
      clear hg hsuf hne hb hbut hu hl1 hl2
      obtain ⟨go, hgo⟩ : ∃ x : Bool, x = (decide ((1 : Int) < (gk : Int)) && (decide ((1000000 : Int) < hv') || decide ((4000 : Int) < (gk : Int)))) := ⟨_, rfl⟩
      go_upto_region 3 with fail
      go_cut [56] (fun s wx => s = .bool go ∧ wx = wr)
      case first =>
        by_cases h1 : (1 : Int) < (gk : Int)
        · have d1 : decide ((1 : Int) < (gk : Int)) = true := decide_eq_true h1
          by_cases h2 : (1000000 : Int) < hv'
          · have d2 : decide ((1000000 : Int) < hv') = true := decide_eq_true h2
            rw [d1, d2] at hgo
            go_wp2_with fail
            go_meet
            exact ⟨by rw [hgo]; rfl, rfl⟩
          · have d2 : decide ((1000000 : Int) < hv') = false := decide_eq_false h2
            rw [d1, d2] at hgo
            by_cases h3 : (4000 : Int) < (gk : Int)
            · have d3 : decide ((4000 : Int) < (gk : Int)) = true := decide_eq_true h3
              rw [d3] at hgo
              go_wp2_with fail
              go_meet
              exact ⟨by rw [hgo]; rfl, rfl⟩
            · have d3 : decide ((4000 : Int) < (gk : Int)) = false := decide_eq_false h3
              rw [d3] at hgo
              go_wp2_with fail
              go_meet
              exact ⟨by rw [hgo]; rfl, rfl⟩
        · have d1 : decide ((1 : Int) < (gk : Int)) = false := decide_eq_false h1
          rw [d1] at hgo
          go_wp2_with fail
          go_meet
          exact ⟨by rw [hgo]; rfl, rfl⟩
      case rest =>
        obtain ⟨rfl, rfl⟩ := hcut
        cases go with
        | false =>
          have HP : Hid (KeepAt w b T cs o K R O (.slice ao n cap) xs (.returned (.tuple #[])) wc) := by
            have h4 : gk ≤ 4000 := by
              simp at hgo
              by_cases h1 : 1 < gk
              · have := hgo (by omega); omega
              · omega
            exact ⟨rfl, u, K', cs', by rw [← HE.out]; exact HSf.out, HNe.out, by rw [← HG.out]; exact h4, ⟨_, _, _, HB.out⟩, HBut.out, HU.out⟩
          go_wp2
          go_end0
          exact HP.out
        | true =>
          have h1 : 2 ≤ gk := by simp at hgo; omega
          clear hgo
          obtain ⟨e1, K2, hK⟩ : ∃ e1 K2, K' = e1 :: K2 := by
            cases K' with
            | nil => exact absurd rfl HNe.out
            | cons a l => exact ⟨a, l, rfl⟩
          subst hK
          have hgl : gk = K2.length + 1 := by rw [HG.out]; rfl
          obtain ⟨hE1⟩ : Nonempty (EntOk wc (fun k => R k ∨ w.heap.size ≤ k) (fun k => O k ∨ own (.slice ao n cap) k) e1) := ⟨HB.out.ents e1 (List.mem_cons_self ..)⟩
          obtain ⟨v1, u1, x1⟩ := e1
          have hE1o := hE1.own
          have hE1w := hE1.was
          dsimp only at hE1o hE1w
          obtain ⟨va, vc, rfl⟩ := IntsW.slice_form hE1o
          obtain ⟨ua, uc1, rfl⟩ := IntsW.slice_form hE1w
          obtain ⟨xn, hxn⟩ : ∃ x, x = x1.length := ⟨_, rfl⟩
          have hxl := hE1.len
          dsimp only at hxl
          clear hE1o hE1w
          rw [← hxn] at hE1 HB HSf HNe HG hxl
          obtain ⟨lg, lo, lc', hlv, _, _, hcl, htl⟩ := HB.out.lrow.some (by simp)
          obtain ⟨wg, wo, wcp, hwv, hw1, hw2, hcw, htw⟩ := HB.out.wrow.some (by simp)
          have el : (List.map Ent.v (⟨.slice va xn vc, .slice ua xn uc1, x1⟩ :: K2)).length = gk := by rw [hgl]; simp
          have eu : (List.map Ent.u (⟨.slice va xn vc, .slice ua xn uc1, x1⟩ :: K2)).length = gk := by rw [hgl]; simp
          rw [el] at hlv htl hcl
          rw [eu] at hwv htw hw1 hcw
          injection hlv with e1 e2 e3
          subst e1 e3
          subst hwv
          clear e2
          have ce := hcl 0 (by omega)
          have cu := hcw 0 (by omega)
          have htl := htl h1
          have htw := htw h1
          simp only [List.map_cons, List.getD_cons_zero, Nat.add_zero, List.tail_cons] at ce cu htl htw
          have c1 : wc.cell? ⟨b, o + 1, none⟩ = some (.slice (some ⟨wg, wo, none⟩) gk wcp) := by rw [HB.out.row.cell]; exact HB.out.c1
          have c3 : wc.cell? ⟨b, o + 3, none⟩ = some (.bool false) := by rw [HB.out.row.cell]; exact HB.out.c3
          have f3 := HB.out.row.frozen (o + 3)
          have HSm := Lib.hid (fun w' => same_any va ua xn vc uc1 x1 w')
          have Hxn := Lib.hid hxn
          have Hxl := Lib.hid hxl
          have HE1 := Lib.hid hE1
          have HTl := Lib.hid htl
          have HTw := Lib.hid htw
          have HW1 := Lib.hid hw1
          have HW2 := Lib.hid hw2
          have HGl := Lib.hid hgl
          have h1I : (1 : Int) ≤ (gk : Int) := by omega
          have h0I : (0 : Int) < (gk : Int) := by omega
          have hlcI : (gk : Int) ≤ (lc : Int) := by have := HC1.out; omega
          have hwcI : (gk : Int) ≤ (wcp : Int) := by omega
          clear hxn hxl hE1 htl htw hw1 hw2 hgl hcl hcw el eu
          go_upto_region 4 with fail
          have HS : Hid (∀ w', Upd (fun _ => False) wc w' → (w'.cell? ⟨b, o, none⟩ = some (.slice (some ⟨lg, lo, none⟩) gk lc) ∧ w'.cell? ⟨b, o + 1, none⟩ = some (.slice (some ⟨wg, wo, none⟩) gk wcp) ∧ w'.cell? ⟨b, o + 3, none⟩ = some (.bool false) ∧ w'.frozen? ⟨b, o + 3, none⟩ = false ∧
              w'.cell? ⟨lg, lo, none⟩ = some (.slice va xn vc) ∧ w'.cell? ⟨wg, wo, none⟩ = some (.slice ua xn uc1)) ∧ Upd (fun _ => False) wc w') := fun w' hq =>
            ⟨⟨hq.cell c0 id, hq.cell c1 id, hq.cell c3 id, (HB.out.row.upd hq id).frozen _, hq.cell ce id, hq.cell cu id⟩, hq⟩
          have HSA : Hid (Sl wc (.slice va xn vc) x1) := Sl.of_own (show wc.ownsRow 0 5 1 (.slice va xn vc) x1.length (x1.map Mem.u8) from HE1.out.own)
          have HSB : Hid (Sl wc (.slice ua xn uc1) x1) := Sl.of_own (show wc.ownsRow 0 5 1 (.slice ua xn uc1) x1.length (x1.map Mem.u8) from HE1.out.was)
          go_cut [56] (fun s2 wx => Upd (fun _ => False) wc wx)
          case first =>
            go_region_held3 (fun w' => (w'.cell? ⟨b, o, none⟩ = some (.slice (some ⟨lg, lo, none⟩) gk lc) ∧ w'.cell? ⟨b, o + 1, none⟩ = some (.slice (some ⟨wg, wo, none⟩) gk wcp) ∧ w'.cell? ⟨b, o + 3, none⟩ = some (.bool false) ∧ w'.frozen? ⟨b, o + 3, none⟩ = false ∧
                w'.cell? ⟨lg, lo, none⟩ = some (.slice va xn vc) ∧ w'.cell? ⟨wg, wo, none⟩ = some (.slice ua xn uc1)) ∧ Upd (fun _ => False) wc w')
              (first
                | exact HS.out _ ((Upd.refl _ wc).drew)
                | (obtain ⟨_, hq⟩ := ‹_ ∧ Upd (fun _ => False) wc _›; exact HS.out _ (hq.trans (hu9.mono (fun _ _ h => h.elim))))
                | (obtain ⟨⟨_, _, h3, _⟩, hq⟩ := ‹_ ∧ Upd (fun _ => False) wc _›; rw [setCell_self h3]; exact HS.out _ hq))
              (first
                | (go_at_call 12; obtain ⟨_, hq⟩ := ‹_ ∧ Upd (fun _ => False) wc _›; refine (HSm.out _ (HSA.out.upd hq (fun _ _ => id)) (HSB.out.upd hq (fun _ _ => id)) Hxl.out).mono ?_; rintro e w9 ⟨rfl, hu9⟩))
            all_goals go_wp2_with fail
            all_goals go_meet
            all_goals exact (‹_ ∧ Upd (fun _ => False) wc _›).2
          case rest =>
            have HB2 : Hid (Bk wc b T cs' o (⟨.slice va xn vc, .slice ua xn uc1, x1⟩ :: K2) (fun k => R k ∨ w.heap.size ≤ k) (fun k => O k ∨ own (.slice ao n cap) k) (.slice (some ⟨lg, lo, none⟩) gk lc) (.slice (some ⟨wg, wo, none⟩) gk wcp) hv') :=
              HB.out.upd hcut id (fun _ _ _ => id) (fun _ _ _ => id)
            have HU2 : Hid (Upd (fun k => k = b ∨ R k) w wc) := HU.out.trans (hcut.mono (fun _ _ e => e.elim))
            have ce2 : wc.cell? ⟨lg, lo, none⟩ = some (.slice va xn vc) := hcut.cell ce id
            have d0 : wc.cell? ⟨b, o, none⟩ = some (.slice (some ⟨lg, lo, none⟩) gk lc) := hcut.cell c0 id
            have d1 : wc.cell? ⟨b, o + 1, none⟩ = some (.slice (some ⟨wg, wo, none⟩) gk wcp) := hcut.cell c1 id
            have d2 : wc.cell? ⟨b, o + 2, none⟩ = some (.int .i64 hv') := hcut.cell c2 id
            have g0 := HB2.out.row.frozen o
            have g1 := HB2.out.row.frozen (o + 1)
            have g2 := HB2.out.row.frozen (o + 2)
            have HTl2 : Hid (OffR wc 22 (.slice (some ⟨lg, lo + 1, none⟩) (gk - 1) (lc - 1)) (K2.map Ent.v)) := HTl.out.upd hcut (fun _ _ => id)
            have HTw2 : Hid (OffR wc 22 (.slice (some ⟨wg, wo + 1, none⟩) (gk - 1) (wcp - 1)) (K2.map Ent.u)) := HTw.out.upd hcut (fun _ _ => id)
            clear hcut HS HSm HSA HSB HB HU HTl HTw c0 c1 c2 c3 f3 ce cu HE1
            go_upto_region 5 with fail
            go_still_tail 16, (by kernel_rfl)
            change wpList _ _ _ _ _ wc.drew
            go_wp2
            obtain ⟨hvn, hhv⟩ : ∃ x, x = wrap64 (wrap64 (hv' - (vc : Int)) - 1) := ⟨_, rfl⟩
            rw [← hhv]
            clear hhv
            have hu5 : Upd (fun k => k = b) wc (((wc.setCell ⟨b, o + 2, none⟩ (.int .i64 hvn)).setCell ⟨b, o, none⟩ (.slice (some ⟨lg, lo + 1, none⟩) (gk - 1) (lc - 1))).setCell ⟨b, o + 1, none⟩ (.slice (some ⟨wg, wo + 1, none⟩) (gk - 1) (wcp - 1))).drew :=
              (((Upd.setCell (S := fun k => k = b) (Upd.refl _ wc) (.inl rfl) _).setCell (.inl rfl) _).setCell (.inl rfl) _).drew
            have l0 : o < cs'.length := (List.getElem?_eq_some_iff.1 HB2.out.c0).1
            have l1 : o + 1 < cs'.length := (List.getElem?_eq_some_iff.1 HB2.out.c1).1
            have l2 : o + 2 < cs'.length := (List.getElem?_eq_some_iff.1 HB2.out.c2).1
            have hb5 := HB2.out.turn hu5 HT.out HT8.out ((((HB2.out.row.set (o + 2) (.int .i64 hvn)).set o (.slice (some ⟨lg, lo + 1, none⟩) (gk - 1) (lc - 1))).set (o + 1) (.slice (some ⟨wg, wo + 1, none⟩) (gk - 1) (wcp - 1))).drew)
              (hv' := hvn) (by rw [List.getElem?_set_ne (by omega), List.getElem?_set_self (by rw [List.length_set]; exact l0)])
              (by rw [List.getElem?_set_self (by rw [List.length_set, List.length_set]; exact l1)])
              (by rw [List.getElem?_set_ne (by omega), List.getElem?_set_ne (by omega), List.getElem?_set_self l2])
              (by rw [List.getElem?_set_ne (by omega), List.getElem?_set_ne (by omega), List.getElem?_set_ne (by omega)]; exact HB2.out.c3)
              (List.suffix_cons _ K2) HTl2.out HTw2.out (fun k hk => hk) (fun k hk => hk)
            have HP5 : Hid (LKeep w b T cs o (K ++ [E]) R O (.slice ao n cap) (gk - 1) (((wc.setCell ⟨b, o + 2, none⟩ (.int .i64 hvn)).setCell ⟨b, o, none⟩ (.slice (some ⟨lg, lo + 1, none⟩) (gk - 1) (lc - 1))).setCell ⟨b, o + 1, none⟩ (.slice (some ⟨wg, wo + 1, none⟩) (gk - 1) (wcp - 1))).drew) :=
              ⟨K2, _, _, _, _, by have := HGl.out; omega, (List.suffix_cons _ K2).trans HSf.out, fun h => by have := HGl.out; rw [h] at this; simp at this; omega, hb5, (((HBut.out.set (o + 2) (by omega) _).set o (by omega) _).set (o + 1) (by omega) _),
                HU2.out.trans (hu5.mono (fun k _ e => .inl (.inl e)))⟩
            go_roundg (gk - 1)
            case rel => exact HP5.out
            case measure => omega
end Go.Proofs.YtgfdnljblfkhkabDoor.BookK
