/-
  frame.walk, with whatever each does.
-/
import Derived.Test.YtgfdnljblfkhkabDoorFrOne
import Derived.Test.YtgfdnljblfkhkabDoorCopyW
import Derived.Deep.LoopGhost
import Derived.Deep.DeepCutAuto
import Derived.Deep.RegionHeld
import Derived.Deep.RegionHeld3
import Derived.WalkMore
namespace Go.Proofs.YtgfdnljblfkhkabDoor.FrWalk
open Go.RowKit Sha Mem Width PutW WriterW RowW CopyW Crc FrTurn FrScan FrFits FrBegin FrOne
set_option linter.unusedVariables false
set_option linter.unusedSimpArgs false

theorem sl_cell {w : World} {pb o n cap : Nat} {l : List UInt8} (h : Sl w (.slice (some ⟨pb, o, none⟩) n cap) l) (i : Nat) (hi : i < l.length) : w.cell? ⟨pb, o + i, none⟩ = some (u8 (l.getD i 0)) := by
  obtain ⟨ao, cap', he, _, _, _, h4⟩ := h
  injection he with e1 e2 e3
  subst e1
  have := (h4 _ rfl).2 i hi
  rwa [add_none] at this
/-- what each leaves: it had not enough, or it had -/
def EachAt (Inv Fin : Nat → World → Prop) (k : Nat) (e : Ending) (w' : World) : Prop := (e = .returned (.bool true) ∧ Inv (k + 1) w') ∨ (e = .returned (.bool false) ∧ Fin k w')
def WalkAt (n : Int) (l : List UInt8) (Inv Fin : Nat → World → Prop) (e : Ending) (w' : World) : Prop :=
  (∃ (k p : Nat) (y : Int), EndIs n l k p y ∧ e = .returned (.tuple #[.int .i64 k, .int .i64 p, .int .i64 y]) ∧ Inv k w') ∨
  (∃ (k p : Nat), pos n l k = some p ∧ p < l.length ∧ nok (n + k) = true ∧ 13 ≤ one (n + k) (l.drop p) ∧ e = .returned (.tuple #[.int .i64 (k + 1 : Nat), .int .i64 (p + one (n + k) (l.drop p) : Nat), .int .i64 0]) ∧ Fin k w')
/-- the frames' loop -/
def LW (n : Int) (l : List UInt8) (Inv : Nat → World → Prop) (g : Nat) (m s y : Value) (wr : World) : Prop :=
  ∃ k p : Nat, pos n l k = some p ∧ p + g = l.length ∧ m = .int .i64 k ∧ s = .int .i64 p ∧ y = .int .i64 0 ∧ Inv k wr
/-- behind the region that lays the scan -/
def PC (wo : World) (n : Int) (rest : Value) (s12 s13 : Value) (wx : World) : Prop :=
  ∃ DB, s12 = rest ∧ s13 = .pointer (some ⟨DB, 0, none⟩) ∧ wo.heap.size ≤ DB ∧ ScAt wx DB (Sc.new n) ∧ Upd (fun _ => False) wo wx
/-- the loop over a frame's bytes -/
def LB (n : Int) (R : List UInt8) (k p DB : Nat) (wo : World) (g : Nat) (m s y i : Value) (wr : World) : Prop :=
  ∃ (j : Nat) (sc : Sc), j + g = R.length ∧ At n R sc j ∧ i = .int .i64 j ∧ m = .int .i64 k ∧ s = .int .i64 p ∧ y = .int .i64 0 ∧ ScAt wr DB sc ∧ Upd (fun _ => False) wo wr

set_option maxHeartbeats 4000000 in
set_option maxRecDepth 100000 in
theorem walk_any (n : Int) (ao : Option Addr) (cap : Nat) (l : List UInt8) (F : Nat) (caps : Array Value) (Inv Fin : Nat → World → Prop) (w : World)
    (hn : -9223372036854775808 ≤ n ∧ n ≤ 9223372036854775807) (hl : l.length ≤ 140737488355328) (h0 : Inv 0 w)
    (hF : ∀ (a : Array Value) (w : World), (callFunc F a).run Tryd.prog w = .ok (.enter F a) w)
    (hI : ∀ k wr, Inv k wr → Sl wr (.slice ao l.length cap) l ∧ Tw wr)
    (hS : ∀ k wr wr', Inv k wr → Upd (fun _ => False) wr wr' → Inv k wr')
    (hE : ∀ (k p pb o : Nat) wr, ao = some ⟨pb, o, none⟩ → pos n l k = some p → p < l.length → nok (n + k) = true → 13 ≤ one (n + k) (l.drop p) → Inv k wr →
      Calls Tryd.prog F (#[.int .i64 (n + k), .slice (some ⟨pb, rat (o + p) (one (n + k) (l.drop p) - 13), none⟩) (one (n + k) (l.drop p) - 13) (one (n + k) (l.drop p) - 13)] ++ caps) wr (EachAt Inv Fin k)) :
    Calls Tryd.prog 39 #[.int .i64 n, .slice ao l.length cap, .func (.func F) #[] caps] w (WalkAt n l Inv Fin) := by
  have HN := Lib.hid hn
  have H0 := Lib.hid h0
  have HI := Lib.hid hI
  have HS := Lib.hid hS
  have HE := Lib.hid hE
  have HFn := Lib.hid hF
  obtain ⟨ll, hll⟩ : ∃ x, x = l.length := ⟨_, rfl⟩
  rw [← hll] at hl ⊢
  have HL := Lib.hid hll
  clear hn h0 hI hS hE hF hll
  go_enter Tryd.func39, Tryd.ntmps39
  go_wp2
  go_step3
  go_wp2
  go_step3
  go_wp2
  go_loopg [9, 10, 11] ll (fun g m s y wr => LW n l Inv g m s y wr)
  case atStart => exact ⟨0, 0, rfl, by have := HL.out; omega, rfl, rfl, rfl, H0.out⟩
  case round =>
    obtain ⟨k, p, hpos, hpg, rfl, rfl, rfl, hinv⟩ := hrel
    obtain ⟨g0, rfl⟩ : ∃ x : Nat, x = gk := ⟨_, rfl⟩
    obtain ⟨wo, rfl⟩ : ∃ x : World, x = wr := ⟨_, rfl⟩
    have HP := Lib.hid hpos
    have HV := Lib.hid hinv
    have hpl : p + g0 = ll := by have := HL.out; omega
    have Hpl := Lib.hid hpl
    have hple : p ≤ ll := by omega
    have hnum := pos_num hpos HN.out
    obtain ⟨hnum1, hnum2⟩ := hnum
    clear hpos hinv hpg hpl H0
    by_cases hlt : p < ll
    · have hltI : (p : Int) < (ll : Int) := by omega
      by_cases hk : nok (n + k) = true
      · skip
        have HN2 := Lib.hid (numbers_any (n + k) wo)
        rw [hk] at HN2
        obtain ⟨hk0, hk1⟩ := (nok_iff _).1 hk
        obtain ⟨hsl, htw⟩ := HI.out k wo HV.out
        obtain ⟨ao', cap', he, hcap, hcm, hnone, hsome⟩ := id hsl
        injection he with e1 e2 e3
        subst e1 e3
        clear e2
        obtain ⟨⟨pb, o, sp⟩, rfl⟩ : ∃ ad, ao = some ad := by
          cases ao with
          | some ad => exact ⟨ad, rfl⟩
          | none => have := hnone rfl; have := HL.out; omega
        obtain ⟨hsp, hcell⟩ := hsome _ rfl
        obtain rfl : sp = none := hsp
        have hcap' : ll ≤ cap := by have := HL.out; omega
        have hcm' : cap ≤ 9223372036854775807 := hcm
        have hcp : ¬ cap = p := by omega
        have hpc : (p : Int) ≤ (ll : Int) := by omega
        have HK := Lib.hid hk
        have HB := Lib.hid (fun (w' : World) (h : Upd (fun _ => False) wo w') => begin_any (n + k) w' hk0 hk1 (htw.upd h id))
        have HSl := Lib.hid hsl
        have HTw := Lib.hid htw
        obtain ⟨Y, hY⟩ : ∃ Y, Y = (Sc.new (n + k)).cells.toArray := ⟨_, rfl⟩
        have HYs : Hid ((Tryd.prog.info? 85).map (·.size) = some Y.size) := by show _ = _; rw [sizeS, hY]; rfl
        have HYl : Hid (AS.size = Y.size) := by show _ = _; rw [hY]; rfl
        have HY1 : Hid (Y.all (·.oneCell') = true) := by show _ = _; rw [hY]; simp [Sc.cells, Value.oneCell']
        have HY := Lib.hid hY
        clear hk hsl htw hnone hsome hcell hcap hcm hY
        go_wp2_with (go_at_call 28; refine HN2.out.mono ?_; rintro e w2 ⟨rfl, rfl⟩)
        have ew : IntKind.i64.wrap (n + (k : Int)) = n + (k : Int) := IntWalk.i64_in _ (by omega)
        go_upto_region 5 with (fail)
        go_cut [12, 13] (fun s12 s13 wx => PC wo (n + k) (.slice (some ⟨pb, o + p, none⟩) (ll - p) (cap - p)) s12 s13 wx)
        case first =>
          have HS_0 : Hid (Upd (fun _ => False) wo wo.drew) := (Upd.refl _ _).drew
          refine wp_region_held_drew (S := Upd (fun _ => False) wo) (by kernel_rfl) HS_0.out (fun _ => ?_)
          refine wpAnyH_take (i := 0) (oi := ⟨some 25, _, _, _, _, _⟩) (v := .slice (some ⟨pb, o, none⟩) ll cap) rfl (by kernel_rfl) (by kernel_rfl) (by kernel_rfl) (fun _ _ _ h => h) (Or.inl ⟨by rfl, fun w hS => by go_simp⟩) HS_0.out ?_
          try simp only [Act.put, List.setIfInBounds_toArray, List.set_cons_zero, List.set_cons_succ]
          refine wpAnyH_take (i := 1) (oi := ⟨some 26, _, _, _, _, _⟩) (v := .int .i64 (p : Int)) rfl (by kernel_rfl) (by kernel_rfl) (by kernel_rfl) (fun _ _ _ h => h) (Or.inl ⟨by rfl, fun w hS => by go_simp⟩) HS_0.out ?_
          try simp only [Act.put, List.setIfInBounds_toArray, List.set_cons_zero, List.set_cons_succ]
          refine wpAnyH_take (i := 2) (oi := ⟨some 27, _, _, _, _, _⟩) (v := .slice (some ⟨pb, o + p, none⟩) (ll - p) (cap - p)) rfl (by kernel_rfl) (by kernel_rfl) (by kernel_rfl) (fun _ _ _ h => h) (Or.inl ⟨by rfl, fun w hS => by go_simp⟩) HS_0.out ?_
          try simp only [Act.put, List.setIfInBounds_toArray, List.set_cons_zero, List.set_cons_succ]
          refine wpAnyH_take (i := 3) (oi := ⟨some 28, _, _, _, _, _⟩) (v := .int .i64 n) rfl (by kernel_rfl) (by kernel_rfl) (by kernel_rfl) (fun _ _ _ h => h) (Or.inl ⟨by rfl, fun w hS => by go_simp⟩) HS_0.out ?_
          try simp only [Act.put, List.setIfInBounds_toArray, List.set_cons_zero, List.set_cons_succ]
          refine wpAnyH_take (i := 4) (oi := ⟨some 29, _, _, _, _, _⟩) (v := .int .i64 (k : Int)) rfl (by kernel_rfl) (by kernel_rfl) (by kernel_rfl) (fun _ _ _ h => h) (Or.inl ⟨by rfl, fun w hS => by go_simp⟩) HS_0.out ?_
          try simp only [Act.put, List.setIfInBounds_toArray, List.set_cons_zero, List.set_cons_succ]
          refine wpAnyH_take (i := 5) (oi := ⟨some 30, _, _, _, _, _⟩) (v := .int .i64 (n + k)) rfl (by kernel_rfl) (by kernel_rfl) (by kernel_rfl) (fun _ _ _ h => h) (Or.inl ⟨by rfl, fun w hS => by go_simp⟩) HS_0.out ?_
          try simp only [Act.put, List.setIfInBounds_toArray, List.set_cons_zero, List.set_cons_succ]
          refine wpAnyH_ready (rs := [6, 7]) (by kernel_rfl) (by simp) ?_
          refine AllReadyH.cons rfl (fun K hK => ?_) (AllReadyH.cons rfl (fun K hK => ?_) AllReadyH.nil)
          · go_simp
            refine (HB.out wo.drew HS_0.out).mono ?_
            rintro e wc ⟨rfl, hu_⟩
            have HSc : Hid (Upd (fun _ => False) wo wc) := HS_0.out.trans (hu_.mono (fun _ _ h => h.elim))
            clear hu_
            refine hK.out _ _ HSc.out (fun hHeld => ?_)
            clear hK K hHeld
            try simp only [Act.put, List.setIfInBounds_toArray, List.set_cons_zero, List.set_cons_succ]
            refine wpAnyH_ready (rs := [7]) (by kernel_rfl) (by simp) ?_
            refine AllReadyH.cons rfl (fun K hK => ?_) AllReadyH.nil
            go_simp
            obtain ⟨DB, hDB⟩ : ∃ x, x = wc.heap.size := ⟨_, rfl⟩
            obtain ⟨wa, hwa⟩ : ∃ x, x = (wc.alloc (.cells #[.int .i64 0, .int .u32 0, .int .u32 0] 85)) := ⟨_, rfl⟩
            rw [← hwa]
            have HRa : Hid (wa.heap[DB]? = some (.cells AS 85 (0, 0))) := by show _ = _; rw [hwa, hDB]; exact heap_alloc_new _ _
            have HSa : Hid (Upd (fun _ => False) wo wa) := by show Upd _ _ _; rw [hwa]; exact HSc.out.alloc _
            have hdb : wo.heap.size ≤ DB := by rw [hDB]; exact HSc.out.size
            try rw [← hDB]
            have HDBe := Lib.hid hDB
            clear hwa hDB
            refine hK.out _ _ HSa.out (fun hHeld => ?_)
            clear hK K hHeld
            try simp only [Act.put, List.setIfInBounds_toArray, List.set_cons_zero, List.set_cons_succ]
            refine wpAnyH_take (i := 8) (oi := ⟨some 12, _, _, _, _, _⟩) (v := .slice (some ⟨pb, o + p, none⟩) (ll - p) (cap - p)) rfl (by kernel_rfl) (by kernel_rfl) (by kernel_rfl) (fun _ _ _ h => h) (Or.inl ⟨by rfl, fun w hS => by go_simp⟩) HSa.out ?_
            try simp only [Act.put, List.setIfInBounds_toArray, List.set_cons_zero, List.set_cons_succ]
            refine wpAnyH_ready (rs := [9]) (by kernel_rfl) (by simp) ?_
            refine AllReadyH.cons rfl (fun K hK => ?_) AllReadyH.nil
            rw [if_pos (by rfl)]
            refine wp_store_row 85 (.tmp 13) (.tmp 31) rfl DB Y (by first | rfl | (rw [HDBe.out]; rfl)) (by rw [HY.out]; rfl) 85 AS HRa.out HYs.out HYl.out HY1.out ?_
            have Hg6 := Lib.hid (setRow_heap _ _ AS Y _ _ HRa.out)
            have Hu6 : Hid (Upd (fun k => k = DB) wa (wa.setRow DB Y)) := Upd.setRow (Upd.refl _ _) _ Y (.inl rfl)
            generalize wa.setRow DB Y = w6 at Hg6 Hu6 ⊢
            have HSf : Hid (Upd (fun _ => False) wo w6) := HSa.out.trans (Hu6.out.mono (fun k _ e => .inr (by omega)))
            refine hK.out _ _ HSf.out (fun hHeld => ?_)
            clear hK K hHeld
            try simp only [Act.put, List.setIfInBounds_toArray, List.set_cons_zero, List.set_cons_succ]
            refine wpAnyH_done (by kernel_rfl) ?_ _
            go_wp2_with fail
            go_meet
            exact ⟨DB, by first | rfl | (rw [HDBe.out]; rfl), by first | rfl | (rw [HDBe.out]; rfl), hdb, by show Row _ _ _ _; rw [HY.out] at Hg6; exact Hg6.out, HSf.out⟩
          · go_simp
            obtain ⟨DB, hDB⟩ : ∃ x, x = wo.heap.size := ⟨_, rfl⟩
            obtain ⟨wa, hwa⟩ : ∃ x, x = (wo.alloc (.cells #[.int .i64 0, .int .u32 0, .int .u32 0] 85)).drew := ⟨_, rfl⟩
            rw [← hwa]
            have HRa : Hid (wa.heap[DB]? = some (.cells AS 85 (0, 0))) := by show _ = _; rw [hwa, hDB]; exact heap_alloc_new _ _
            have HSa : Hid (Upd (fun _ => False) wo wa) := by show Upd _ _ _; rw [hwa]; exact ((Upd.refl _ wo).alloc _).drew
            have hdb : wo.heap.size ≤ DB := by rw [hDB]; exact Nat.le_refl _
            try rw [← hDB]
            have HDBe := Lib.hid hDB
            clear hwa hDB
            refine hK.out _ _ HSa.out (fun hHeld => ?_)
            clear hK K hHeld
            try simp only [Act.put, List.setIfInBounds_toArray, List.set_cons_zero, List.set_cons_succ]
            refine wpAnyH_ready (rs := [6]) (by kernel_rfl) (by simp) ?_
            refine AllReadyH.cons rfl (fun K hK => ?_) AllReadyH.nil
            go_simp
            refine (HB.out wa HSa.out).mono ?_
            rintro e wc ⟨rfl, hu_⟩
            have HSc : Hid (Upd (fun _ => False) wo wc) := HSa.out.trans (hu_.mono (fun _ _ h => h.elim))
            have HRa' : Hid (wc.heap[DB]? = some (.cells AS 85 (0, 0))) := (hu_.block _ (lt_of_block HRa.out) id).trans HRa.out
            clear HRa
            have HRa := HRa'
            clear hu_
            refine hK.out _ _ HSc.out (fun hHeld => ?_)
            clear hK K hHeld
            try simp only [Act.put, List.setIfInBounds_toArray, List.set_cons_zero, List.set_cons_succ]
            refine wpAnyH_take (i := 8) (oi := ⟨some 12, _, _, _, _, _⟩) (v := .slice (some ⟨pb, o + p, none⟩) (ll - p) (cap - p)) rfl (by kernel_rfl) (by kernel_rfl) (by kernel_rfl) (fun _ _ _ h => h) (Or.inl ⟨by rfl, fun w hS => by go_simp⟩) HSc.out ?_
            try simp only [Act.put, List.setIfInBounds_toArray, List.set_cons_zero, List.set_cons_succ]
            refine wpAnyH_ready (rs := [9]) (by kernel_rfl) (by simp) ?_
            refine AllReadyH.cons rfl (fun K hK => ?_) AllReadyH.nil
            rw [if_pos (by rfl)]
            refine wp_store_row 85 (.tmp 13) (.tmp 31) rfl DB Y (by first | rfl | (rw [HDBe.out]; rfl)) (by rw [HY.out]; rfl) 85 AS HRa.out HYs.out HYl.out HY1.out ?_
            have Hg6 := Lib.hid (setRow_heap _ _ AS Y _ _ HRa.out)
            have Hu6 : Hid (Upd (fun k => k = DB) wc (wc.setRow DB Y)) := Upd.setRow (Upd.refl _ _) _ Y (.inl rfl)
            generalize wc.setRow DB Y = w6 at Hg6 Hu6 ⊢
            have HSf : Hid (Upd (fun _ => False) wo w6) := HSc.out.trans (Hu6.out.mono (fun k _ e => .inr (by omega)))
            refine hK.out _ _ HSf.out (fun hHeld => ?_)
            clear hK K hHeld
            try simp only [Act.put, List.setIfInBounds_toArray, List.set_cons_zero, List.set_cons_succ]
            refine wpAnyH_done (by kernel_rfl) ?_ _
            go_wp2_with fail
            go_meet
            exact ⟨DB, by first | rfl | (rw [HDBe.out]; rfl), by first | rfl | (rw [HDBe.out]; rfl), hdb, by show Row _ _ _ _; rw [HY.out] at Hg6; exact Hg6.out, HSf.out⟩
        case rest =>
          clear ew
          obtain ⟨DB, rfl, rfl, hdb, hsc0, hu0⟩ := hcut
          obtain ⟨q, hq⟩ : ∃ q, q = ll - p := ⟨_, rfl⟩
          obtain ⟨R, hR⟩ : ∃ R, R = l.drop p := ⟨_, rfl⟩
          have hRl : R.length = q := by rw [hR, List.length_drop, hq]; have := HL.out; omega
          rw [← hq]
          have Hq := Lib.hid hq
          have HR := Lib.hid hR
          have HRl := Lib.hid hRl
          have Hsc0 := Lib.hid hsc0
          have Hu0 := Lib.hid hu0
          have hql : q ≤ ll := by omega
          have hpk := (pos_le HP.out).1
          have Hpk := Lib.hid hpk
          have hkb : k ≤ 140737488355328 := by have := HL.out; omega
          have hqc : q ≤ cap - p := by omega
          clear hq hR hRl hsc0 hu0 hpk HB HYs HYl HY1 HY
          go_wp2
          go_loopg [9, 10, 11, 34] q (fun g m s y i wx => LB (n + k) R k p DB wo g m s y i wx)
          case atStart => exact ⟨0, _, by have := HRl.out; omega, At.zero _ _, rfl, rfl, rfl, rfl, Hsc0.out, Hu0.out⟩
          case round =>
            obtain ⟨j, sc, hjg, hat, rfl, rfl, rfl, rfl, hsc, hu⟩ := hrel
            have Hat := Lib.hid hat
            have Hsc := Lib.hid hsc
            have Hu := Lib.hid hu
            have hjq : j + gk = q := by have := HRl.out; omega
            have Hjq := Lib.hid hjq
            have hjle : j ≤ q := by omega
            have hlen := hat.len
            have hjlt := hat.lt
            have HV2 := Lib.hid (HS.out k wo wr HV.out hu)
            clear Hsc0 Hu0 hjg hat hsc hu hjq
            by_cases hj : j < q
            · have hjI : (j : Int) < (q : Int) := by omega
              obtain ⟨c, hc⟩ : ∃ c, c = R.getD j 0 := ⟨_, rfl⟩
              have c0 : wr.cell? ⟨pb, o + p + j, none⟩ = some (.int .u8 (c.toNat : Int)) := by
                have h2 := sl_cell (HSl.out.upd Hu.out (fun _ _ => id)) (p + j) (by have := HL.out; have := Hq.out; omega)
                rw [← Nat.add_assoc] at h2
                rw [h2, hc, HR.out]
                unfold Mem.u8
                rw [List.getD_eq_getElem?_getD, List.getD_eq_getElem?_getD, List.getElem?_drop]
              have HF := Lib.hid (fits_any DB j c sc wr Hsc.out hjlt hlen (HTw.out.upd Hu.out id))
              have Hc := Lib.hid hc
              clear hc
              by_cases hok : sc.ok j c = true
              · obtain ⟨s2, hs2⟩ : ∃ x, x = sc.next j c := ⟨_, rfl⟩
                have hnl := next_len hlen hok
                rw [← hs2] at hnl
                obtain ⟨hnl1, hnl2⟩ := hnl
                have Hok := Lib.hid hok
                have Hs2 := Lib.hid hs2
                clear hok hs2
                go_wp2_with fail
                refine HF.out.mono ?_
                rintro e w2 ⟨he, h1, h2⟩
                rw [Hok.out] at he
                subst he
                rw [← Hs2.out] at h1
                have HS2 := Lib.hid h1
                have HU2 : Hid (Upd (fun _ => False) wo w2) := Hu.out.trans (h2.mono (fun i _ e => .inr (by omega)))
                clear h1 h2
                go_wp2_with fail
                refine (size_any DB s2 w2 HS2.out (by omega)).mono ?_
                rintro e w3 ⟨rfl, rfl⟩
                by_cases hw : j + 1 = 13 + s2.len
                · have hone : one (n + k) R = j + 1 := by
                    refine At.whole Hat.out (by have := HRl.out; omega) (by rw [← Hc.out]; exact Hok.out) ?_
                    rw [← Hc.out, ← Hs2.out]
                    exact hw
                  have Hone := Lib.hid hone
                  have HV3 := Lib.hid (HS.out k wo w2 HV.out HU2.out)
                  have hd : ((j : Int) + 1 == 13 + (s2.len : Int)) = true := by rw [beq_iff_eq]; omega
                  have hC := HE.out k p pb o w2 rfl HP.out (by have := HL.out; omega) HK.out (by rw [← HR.out, hone]; omega) HV3.out
                  rw [← HR.out, hone, hw, Nat.add_sub_cancel_left] at hC
                  have HC := Lib.hid hC
                  clear hC
                  have Hw := Lib.hid hw
                  have hpos' : Hid (pos n l (k + 1) = some (p + (13 + s2.len))) := by
                    have h := pos_succ HP.out (by have := HL.out; omega) HK.out (by rw [← HR.out, hone]; omega)
                    rw [← HR.out, hone, hw] at h
                    exact h
                  have hq13 : 13 + s2.len ≤ q := by omega
                  clear hone hw
                  go_wp2_with fail
                  refine (size_any DB s2 w2 HS2.out (by omega)).mono ?_
                  rintro e w3 ⟨rfl, rfl⟩
                  go_wp2_with fail
                  refine (record_any DB pb (o + p) q (cap - p) s2 w2 HS2.out (by omega) (by omega)).mono ?_
                  rintro e w3 ⟨rfl, rfl⟩
                  go_wp2_with fail
                  have en : n + ((k : Int) + 1) - 1 = n + k := by omega
                  rw [en]
                  clear en
                  rw [HFn.out, Oper.upon_enter]
                  refine HC.out.mono ?_
                  rintro e w5 (⟨rfl, hi5⟩ | ⟨rfl, hf5⟩)
                  · have HI5 := Lib.hid hi5
                    clear hi5
                    go_wp2
                    go_roundg (g0 - (13 + s2.len))
                    case rel => exact ⟨k + 1, p + (13 + s2.len), hpos'.out, by have := Hpl.out; have := Hq.out; have := HL.out; omega, by go_num, by go_num, rfl, HI5.out⟩
                    case measure => have := Hpl.out; have := Hq.out; omega
                  · have HW : Hid (WalkAt n l Inv Fin (.returned (.tuple #[.int .i64 (k + 1 : Nat), .int .i64 (p + (13 + s2.len) : Nat), .int .i64 0])) w5) := by
                      refine .inr ⟨k, p, HP.out, by have := HL.out; omega, HK.out, ?_, ?_, hf5⟩
                      · rw [← HR.out, Hone.out]; have := Hw.out; omega
                      · rw [← HR.out, Hone.out, Hw.out]
                    clear hf5
                    go_wp2
                    rw [Exit.noGoto_ret]
                    go_ret3
                    exact HW.out
                · have Hw := Lib.hid hw
                  have hd : ((j : Int) + 1 == 13 + (s2.len : Int)) = false := by rw [beq_eq_false_iff_ne]; omega
                  have HA2 : Hid (At (n + k) R s2 (j + 1)) := by
                    have h := At.on Hat.out (by have := HRl.out; omega) (by rw [← Hc.out]; exact Hok.out) (by rw [← Hc.out, ← Hs2.out]; exact hw)
                    rw [← Hc.out, ← Hs2.out] at h
                    exact h
                  clear hw
                  go_wp2
                  go_roundg (gk - 1)
                  case rel => exact ⟨j + 1, s2, by have := HRl.out; have := Hjq.out; omega, HA2.out, by go_num, rfl, rfl, rfl, HS2.out, HU2.out⟩
                  case measure => have := Hjq.out; omega
              · have hok' : sc.ok j c = false := by simpa using hok
                have hone : one (n + k) (l.drop p) = 1 := by
                  rw [← HR.out]
                  exact Hat.out.bad (by have := HRl.out; omega) (by rw [← Hc.out]; exact hok')
                have Hok := Lib.hid hok'
                have Hone := Lib.hid hone
                clear hok hok' hone
                go_wp2_with fail
                refine HF.out.mono ?_
                rintro e w2 ⟨he, h1, h2⟩
                rw [Hok.out] at he
                subst he
                have HW : Hid (WalkAt n l Inv Fin (.returned (.tuple #[.int .i64 k, .int .i64 p, .int .i64 41])) w2) :=
                  .inl ⟨k, p, 41, ⟨HP.out, .inr (.inr (.inl ⟨by have := HL.out; omega, HK.out, Hone.out, rfl⟩))⟩, rfl, HS.out k wo w2 HV.out (Hu.out.trans (h2.mono (fun i _ e => .inr (by omega))))⟩
                clear h1 h2
                go_wp2
                rw [Exit.noGoto_ret]
                go_ret3
                exact HW.out
            · have hjI : decide ((j : Int) < (q : Int)) = false := by simp; omega
              have hone : one (n + k) (l.drop p) = 0 := by rw [← HR.out]; exact Hat.out.torn (by have := HRl.out; omega)
              have HW : Hid (WalkAt n l Inv Fin (.returned (.tuple #[.int .i64 k, .int .i64 p, .int .i64 40])) wr) :=
                .inl ⟨k, p, 40, ⟨HP.out, .inr (.inr (.inr ⟨by have := HL.out; omega, HK.out, hone, rfl⟩))⟩, rfl, HV2.out⟩
              clear hone
              go_wp2
              rw [Exit.noGoto_ret]
              go_ret3
              exact HW.out
      · have hkf : nok (n + k) = false := by simpa using hk
        have HN2 := Lib.hid (numbers_any (n + k) wo)
        rw [hkf] at HN2
        have HW : Hid (WalkAt n l Inv Fin (.returned (.tuple #[.int .i64 k, .int .i64 p, .int .i64 1])) wo) :=
          .inl ⟨k, p, 1, ⟨HP.out, .inr (.inl ⟨by have := HL.out; omega, hkf, rfl⟩)⟩, rfl, HV.out⟩
        clear hk hkf
        go_wp2_with (go_at_call 28; refine HN2.out.mono ?_; rintro e w2 ⟨rfl, rfl⟩)
        rw [Exit.noGoto_ret]
        go_ret3
        exact HW.out
    · have hltI : decide ((p : Int) < (ll : Int)) = false := by simp; omega
      have HW : Hid (WalkAt n l Inv Fin (.returned (.tuple #[.int .i64 k, .int .i64 p, .int .i64 0])) wo) :=
        .inl ⟨k, p, 0, ⟨HP.out, .inl ⟨by have := HL.out; omega, rfl⟩⟩, rfl, HV.out⟩
      go_wp2
      rw [Exit.noGoto_ret]
      go_ret3
      exact HW.out
end Go.Proofs.YtgfdnljblfkhkabDoor.FrWalk
