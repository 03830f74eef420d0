/-
  octet.Reader.Texts.
-/
import Derived.Test.YtcdgimapkbaboaaReadB
import Derived.Test.YtcdgimapkbaboaaTextsW
import Derived.Laws.OwnMore
import Derived.Deep.LoopGhost
import Derived.Deep.DeepCutAuto
namespace Go.Proofs.Ytcdgimapkbaboaa.ReadT
open Go.RowKit Mem Width PutW WriterW ReaderW TakeW FlagW NamesW StrW TextsW ReadB
set_option linter.unusedVariables false
set_option linter.unusedSimpArgs false

def tx (xs : List UInt8) : ByteArray := ⟨xs.toArray⟩
/-- the texts that are taken, and where the Reader stands -/
def tsLoop (frm : Nat) (each : Int) (l : List UInt8) : Nat → List ByteArray → (Nat × Int) → List ByteArray × (Nat × Int)
  | 0, acc, s => (acc, s)
  | n + 1, acc, s =>
    if (txtM each l s).2.2 = 0 then
      (if acc ≠ [] ∧ leB (tx (txtM each l s).1) (acc.getD (acc.length - 1) ByteArray.empty) = true then ([], (frm, 8)) else tsLoop frm each l n (acc ++ [tx (txtM each l s).1]) (txtM each l s).2)
    else ([], (frm, (txtM each l s).2.2))
def tsM (most each : Int) (l : List UInt8) (s : Nat × Int) : List ByteArray × (Nat × Int) :=
  if bnd most 65535 < (takeM 2 l s).1 then ([], (s.1, if (takeM 2 l s).2.2 = 0 then 7 else (takeM 2 l s).2.2)) else tsLoop s.1 each l (takeM 2 l s).1 [] (takeM 2 l s).2

theorem infoS : (Try.prog.info? 9).map (fun i => (i.zero, i.size, i.bytes)) = some (some (.string ⟨#[]⟩), 1, 16) := by kernel_rfl
theorem add_none (g o i : Nat) : (⟨g, o, none⟩ : Addr).add i = ⟨g, o + i, none⟩ := by unfold Addr.add; split <;> simp_all
theorem slice_form {w : World} {base n s : Nat} {e : TypeId} {v : Value} {xs : List Value} (h : w.ownsRow base e s v n xs) : ∃ ao cap, v = .slice ao n cap := by
  rcases h.2 with ⟨rfl, rfl⟩ | ⟨g, cap, cur, rfl, _⟩
  · exact ⟨_, _, rfl⟩
  · exact ⟨_, _, rfl⟩
theorem own_upd {S : Nat → Prop} {w w' : World} {b n s : Nat} {e : TypeId} {v : Value} {xs : List Value} (h : w.ownsRow b e s v n xs) (hu : Upd S w w') (hd : ∀ k, own v k → ¬ S k) : w'.ownsRow b e s v n xs := by
  refine ⟨h.1, ?_⟩
  rcases h.2 with h2 | ⟨g, cap, cur, rfl, hg, hh, r⟩
  · exact .inl h2
  · exact .inr ⟨g, cap, cur, rfl, hg, (hu.block g (lt_of_block hh) (hd g rfl)).trans hh, r⟩
theorem rows_apart {w : World} {b b' : Nat} {e e' : TypeId} {s s' : Nat} {v v' : Value} {n n' : Nat} {xs xs' : List Value} (h : w.ownsRow b e s v n xs) (h' : w.ownsRow b' e' s' v' n' xs') (hne : e ≠ e') {k : Nat} (hk : own v k) (hk' : own v' k) : False := by
  rcases h.2 with ⟨rfl, _⟩ | ⟨g, cap, cur, rfl, _, hg, _⟩
  · simp [own, Value.ownBlock] at hk
  · rcases h'.2 with ⟨rfl, _⟩ | ⟨g', cap', cur', rfl, _, hg', _⟩
    · simp [own, Value.ownBlock] at hk'
    · simp [own, Value.ownBlock] at hk hk'
      subst hk hk'
      rw [hg] at hg'
      injection hg' with h1
      injection h1 with _ h2
      exact hne h2
theorem wpList_append_strv (w : World) {ops : Array Oper} {rest : List Oper} {o : Oper} {a : Act} {Q : Exit → Act → World → Prop} (hgd : o.guard = none) (sl x : Operand)
    (ho : o.op = .call { callee := .builtin .append, args := #[sl, x], argTypes := #[52, 52] })
    (v : Value) (n : Nat) (xs : List Value) (hs : a.eval sl = v) (base : Nat) (hown : w.ownsRow base 9 1 v n xs) (g c : Nat) (u : ByteArray) (hx : a.eval x = .slice (some ⟨g, 0, none⟩) 1 c) (hg : w.heap[g]? = some (.cells #[.string u] 9 (0, 0)))
    (hn : n ≤ 1000000000) (hb : base ≤ w.heap.size)
    (h : ∀ ao cap w', Hid (w'.ownsRow base 9 1 (.slice ao (n + 1) cap) (n + 1) (xs ++ [.string u])) → Hid (w.grownBy w' v.ownBlock) → wpList Try.prog ops Q rest (a.put o.dst (.slice ao (n + 1) cap)) w') :
    wpList Try.prog ops Q (o :: rest) a w := by
  obtain ⟨i0, hi, hz0, hz1, hz2⟩ := info_parts infoS
  refine wpList_append_own_at w hgd sl x 52 ho base 9 i0 (.string ⟨#[]⟩) 1 16 Try.underlying52 hi hz0 hz1 hz2 rfl (by decide) v _ _ hs hown ⟨g, 0, none⟩ 1 c [.string u] hx (by simp) (fun j v' hv => ?_) (fun v' hv => ?_) (by unfold maxLen; omega) (by omega) hb (fun v' w' a1 a2 _ a4 => ?_)
  · have hj : j = 0 := by have := (List.getElem?_eq_some_iff.1 hv).1; simpa using this
    subst hj
    rw [add_none, cell_of_row _ _ _ _ _ _ hg]
    simpa using hv
  · rw [List.mem_singleton.1 hv]; rfl
  · obtain ⟨ao, cap, rfl⟩ := slice_form a1
    exact h ao cap w' a1 a2

/-- texts in memory of their own -/
def OwnT (r : List ByteArray × (Nat × Int)) (b : Nat) (v : Value) (l : List UInt8) (w : World) (e : Ending) (w' : World) : Prop :=
  ∃ ao cap, e = .returned (.slice ao r.1.length cap) ∧ w'.ownsRow w.heap.size 9 1 (.slice ao r.1.length cap) r.1.length (r.1.map .string) ∧ Rd w' b v l r.2 ∧ Upd (fun k => k = b) w w'
/-- the loop over the texts -/
def LTs (R : List ByteArray × (Nat × Int)) (frm : Nat) (each : Int) (l : List UInt8) (b : Nat) (v : Value) (w : World) (N g : Nat) (sv i : Value) (wr : World) : Prop :=
  ∃ k acc st, k + g = N ∧ i = .int .i64 k ∧ acc.length = k ∧ tsLoop frm each l g acc st = R ∧ (∃ ao cap, sv = .slice ao k cap) ∧ wr.ownsRow w.heap.size 9 1 sv k (acc.map .string) ∧ Rd wr b v l st ∧ Upd (fun k => k = b) w wr

set_option maxHeartbeats 2000000 in
set_option maxRecDepth 100000 in
theorem rtexts_any (most each : Int) (b : Nat) (v : Value) (l : List UInt8) (s : Nat × Int) (w : World) (hr : Rd w b v l s) (hl : l.length ≤ 140737488355328) :
    Calls Try.prog 77 #[.pointer (some ⟨b, 0, none⟩), .int .i64 most, .int .i64 each] w (OwnT (tsM most each l s) b v l w) := by
  have Hr := Lib.hid hr
  have hp := hr.2.2
  have c1 := hr.c1
  have hblt := lt_of_block hr.1
  clear hr
  go_enter Try.func77, Try.ntmps77
  go_wp2_with fail
  refine (take16 b v l s w Hr.out hl).mono ?_
  rintro e w1 ⟨rfl, hr1, hu1⟩
  have hn := takeM_lt 2 l s
  have Hd : Hid (tsM most each l s = if bnd most 65535 < (takeM 2 l s).1 then ([], (s.1, if (takeM 2 l s).2.2 = 0 then 7 else (takeM 2 l s).2.2)) else tsLoop s.1 each l (takeM 2 l s).1 [] (takeM 2 l s).2) := rfl
  obtain ⟨tk, htk⟩ : ∃ x, x = takeM 2 l s := ⟨_, rfl⟩
  rw [← htk] at hr1 hn Hd ⊢
  have Hr1 := Lib.hid hr1
  have Hu1 := Lib.hid hu1
  clear hr1 hu1 htk c1
  obtain ⟨tn, ts⟩ := tk
  obtain ⟨R, hR⟩ : ∃ x, x = tsM most each l s := ⟨_, rfl⟩
  have HR := Lib.hid hR
  rw [← hR] at Hd
  simp only at hn Hd Hr1 ⊢
  have hn' : (tn : Int) ≤ 65535 := by omega
  have HB := Lib.hid (bound_any most 65535 w1)
  obtain ⟨bm, hbm⟩ : ∃ x, x = bnd most 65535 := ⟨_, rfl⟩
  rw [← hbm] at HB Hd
  clear hR hbm hn
  go_wp2_with fail
  refine HB.out.mono ?_
  rintro e w2 ⟨rfl, rfl⟩
  by_cases hlt : bm < (tn : Int)
  · rw [if_pos hlt] at Hd
    go_wp2_with fail
    refine (refuse_any b v l ts s.1 7 w1 Hr1.out hp).mono ?_
    rintro e w3 ⟨rfl, hr3, hu3⟩
    have HP : Hid (OwnT R b v l w (.returned (.slice none 0 0)) w3) := by
      show OwnT _ _ _ _ _ _ _
      rw [Hd.out]
      exact ⟨none, 0, rfl, World.ownsRow_nil _ _ _ 1, hr3, Hu1.out.trans (hu3.mono fun k _ e => .inl e)⟩
    clear hr3 hu3
    go_wp2
    go_ret
    rw [← HR.out]
    exact HP.out
  · rw [if_neg hlt] at Hd
    have hd : decide (bm < (tn : Int)) = false := decide_eq_false hlt
    clear hlt
    go_wp2
    go_loopg [9, 10, 11, 27] tn (fun g sv i10 t11 i wr => LTs R s.1 each l b v w tn g sv i wr)
    case atStart => exact ⟨0, [], ts, by omega, rfl, rfl, Hd.out.symm, ⟨_, _, rfl⟩, World.ownsRow_nil _ _ _ 1, Hr1.out, Hu1.out⟩
    case round =>
      obtain ⟨k, acc, st, hkg, rfl, hal, hloop, ⟨sao, scap, rfl⟩, hown, hrd, hu⟩ := hrel
      have HO := Lib.hid hown
      have HRd := Lib.hid hrd
      have HU := Lib.hid hu
      have Hal := Lib.hid hal
      cases gk with
      | zero =>
        obtain rfl : k = tn := by omega
        have HP : Hid (OwnT R b v l w (.returned (.slice sao k scap)) wr) := by
          have e : R = (acc, st) := hloop.symm
          show OwnT _ _ _ _ _ _ _
          rw [e]
          refine ⟨sao, scap, by rw [hal], ?_, hrd, hu⟩
          rw [hal]
          exact hown
        clear hown hrd hu hloop hal
        go_wp2
        go_ret
        rw [← HR.out]
        exact HP.out
      | succ g =>
        have hkI : (k : Int) < (tn : Int) := by omega
        have hk6 : (k : Int) ≤ 65535 := by omega
        have HT := Lib.hid (rtext_any each b v l st wr hrd hl)
        rw [tsLoop] at hloop
        obtain ⟨r, hr⟩ : ∃ x, x = txtM each l st := ⟨_, rfl⟩
        rw [← hr] at hloop HT
        obtain ⟨xs, ra, ry⟩ := r
        obtain ⟨X, hX⟩ : ∃ X, X = tx xs := ⟨_, rfl⟩
        have hX' : (⟨xs.toArray⟩ : ByteArray) = X := hX.symm
        simp only at HT hloop
        rw [hX'] at HT
        rw [← hX] at hloop
        have Hloop := Lib.hid hloop
        have Hkg := Lib.hid hkg
        clear hown hrd hu hr hX hX' hloop hal hkg
        go_wp2_with fail
        refine HT.out.mono ?_
        rintro e w3 ⟨rfl, hr3, hu3⟩
        have d2 : w3.cell? ⟨b, 2, none⟩ = some (.int .i64 ry) := hr3.c2
        have HR3 := Lib.hid hr3
        have HU3 : Hid (Upd (fun k => k = b) w w3) := HU.out.trans (hu3.mono fun k _ e => .inl e)
        have HO3 : Hid (w3.ownsRow w.heap.size 9 1 (.slice sao k scap) k (acc.map .string)) := own_upd HO.out hu3 (fun j hj e => by
          have := (HO.out.lt j hj).1
          omega)
        clear hr3 hu3 HT
        obtain ⟨last, hlast⟩ : ∃ x, x = acc.getD (acc.length - 1) ByteArray.empty := ⟨_, rfl⟩
        rw [← hlast] at Hloop
        obtain ⟨bad, hbad⟩ : ∃ x : Bool, x = (!(ry == 0) || (decide (0 < k) && leB X last)) := ⟨_, rfl⟩
        go_upto_region 11 with fail
        go_cut [50] (fun s wx => s = .bool bad ∧ wx = w3)
        case first =>
          by_cases hy : ry = 0
          · subst hy
            by_cases hk0 : k = 0
            · subst hk0
              have Hb : Hid (bad = false) := by show _ = _; rw [hbad]; rfl
              clear hbad hlast
              go_wp2_with fail
              go_meet
              exact ⟨by rw [Hb.out], rfl⟩
            · have hk1 : (0 : Int) < (k : Int) := by omega
              have hform := HO3.out.form (by omega)
              obtain ⟨gs, caps, he, _⟩ := hform
              injection he with e1 e2 e3
              subst e1 e3
              clear e2
              have hl1 : (acc.map Value.string)[k - 1]? = some (.string last) := by
                have h2 : k - 1 < acc.length := by have := Hal.out; omega
                rw [List.getElem?_map, hlast, List.getD_eq_getElem?_getD, Hal.out, List.getElem?_eq_getElem h2]
                rfl
              have cl : w3.cell? ⟨gs, k - 1, none⟩ = some (.string last) := by rw [HO3.out.cellAt (k - 1) (by omega)]; exact hl1
              obtain ⟨km, hkm⟩ : ∃ km : Nat, k = km + 1 := ⟨k - 1, by omega⟩
              subst hkm
              have hw1 : (((km + 1 : Nat) : Int) - 1) = (km : Int) := by omega
              rw [Nat.add_sub_cancel] at cl
              clear hl1 hlast
              have hbb : bad = (Op.bytesLess X.toList last.toList || X.toList == last.toList) := by rw [hbad]; simp [leB]
              clear hbad
              cases hle : (Op.bytesLess X.toList last.toList || X.toList == last.toList) with
              | true =>
                have Hb : Hid (bad = true) := hbb.trans hle
                clear hbb
                go_wp2_with fail
                go_meet
                exact ⟨by rw [Hb.out], rfl⟩
              | false =>
                have Hb : Hid (bad = false) := hbb.trans hle
                clear hbb
                go_wp2_with fail
                go_meet
                exact ⟨by rw [Hb.out], rfl⟩
          · have hyb : (ry == 0) = false := by simpa using hy
            have hyn : (ry != 0) = true := by simpa using hy
            have Hb : Hid (bad = true) := by show _ = _; rw [hbad, hyb]; rfl
            clear hbad hlast
            go_wp2_with fail
            go_meet
            exact ⟨by rw [Hb.out], rfl⟩
        case rest =>
          obtain ⟨rfl, rfl⟩ := hcut
          cases bad with
          | true =>
            have HP : Hid (∀ w', Rd w' b v l (s.1, if ry = 0 then 8 else ry) → Upd (fun k => k = b) wc w' → OwnT R b v l w (.returned (.slice none 0 0)) w') := fun w' h1 h2 => by
              have e : R = ([], (s.1, if ry = 0 then 8 else ry)) := by
                rw [← Hloop.out]
                by_cases hy : ry = 0
                · rw [if_pos hy, if_pos hy]
                  rw [hy] at hbad
                  have h3 := hbad.symm
                  simp at h3
                  exact if_pos ⟨fun e0 => by rw [e0] at Hal; have := Hal.out; simp at this; omega, h3.2⟩
                · rw [if_neg hy, if_neg hy]
              rw [e]
              exact ⟨none, 0, rfl, World.ownsRow_nil _ _ _ 1, h1, HU3.out.trans (h2.mono fun k _ e => .inl e)⟩
            clear hbad hlast
            go_wp2_with fail
            refine (refuse_any b v l (ra, ry) s.1 8 wc HR3.out hp).mono ?_
            rintro e w4 ⟨rfl, hr4, hu4⟩
            have HP4 := Lib.hid (HP.out w4 hr4 hu4)
            clear hr4 hu4
            go_wp2
            go_ret
            rw [← HR.out]
            exact HP4.out
          | false =>
            have HL2 : Hid (ry = 0 ∧ tsLoop s.1 each l g (acc ++ [X]) (ra, ry) = R) := by
              have h3 := hbad.symm
              simp at h3
              obtain ⟨h4, h5⟩ := h3
              refine ⟨h4, ?_⟩
              have h := Hloop.out
              rw [if_pos h4, if_neg (fun h6 => by
                have h7 := h5 (by rcases Nat.eq_zero_or_pos k with h8 | h8; · exact absurd (List.eq_nil_of_length_eq_zero (Hal.out.trans h8)) h6.1
                                  · exact h8)
                rw [h6.2] at h7
                cases h7)] at h
              exact h
            clear hbad hlast
            have hwl : w.heap.size ≤ wc.heap.size := HU3.out.size
            go_wp2_with ((with_reducible refine wpList_append_strv (o := ⟨some 57, _, _, _, _, _⟩) _ ?_ (.tmp 54) (.tmp 56) ?_ (.slice sao k scap) k (acc.map .string) ?_ w.heap.size (HO3.out.alloc _) wc.heap.size 1 X ?_ (heap_alloc_new _ _) (by omega) (by simp; omega) ?_); rfl; rfl; rfl; rfl; intro sao5 scap5 w5 HO5 HG5)
            have hu5 : Upd (fun j => j = b) w w5 := (HU3.out.alloc _).trans ((Upd.grown HG5.out (S := own (.slice sao k scap)) (fun j hj => hj)).mono fun j _ e => .inr (HO3.out.lt j e).1)
            have hr5 : Rd w5 b v l (ra, ry) := (HR3.out.upd ((Upd.refl (fun _ => False) wc).alloc _) id (fun _ _ => id)).upd (Upd.grown HG5.out (S := own (.slice sao k scap)) (fun j hj => hj)) (fun e => by have := (HO3.out.lt b e).1; omega) (fun j hj e => by
              exact rows_apart HO3.out HR3.out.2.1 (by decide) e hj)
            have HP : Hid (LTs R s.1 each l b v w tn g (.slice sao5 (k + 1) scap5) (.int .i64 ((k : Int) + 1)) w5) :=
              ⟨k + 1, acc ++ [X], (ra, ry), by have := Hkg.out; omega, rfl, by simp [Hal.out], HL2.out.2, ⟨_, _, rfl⟩, by rw [List.map_append]; exact HO5.out, hr5, hu5⟩
            clear hu5 hr5 HO5 HG5
            go_roundg g
            case rel => exact HP.out
            case measure => omega
end Go.Proofs.Ytcdgimapkbaboaa.ReadT
