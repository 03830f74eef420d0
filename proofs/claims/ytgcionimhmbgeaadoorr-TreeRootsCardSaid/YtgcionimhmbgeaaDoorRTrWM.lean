/-
  docketlaw6.TreeRoots, walked.
-/
import Derived.Test.YtgcionimhmbgeaaDoorRTrCM
namespace Go.Proofs.YtgcionimhmbgeaaDoorR.TrW
open Go.RowKit Sha TurnW Mem RowW SpreadW MixW HashM CopyW WriteW WriteN EndW SumH NewW EqW CutW OfW LeafW TabK BitsW SpL RefOf TabR TrD TrF IntsW TrR TrB TrC
set_option linter.unusedVariables false
set_option linter.unusedSimpArgs false

theorem row_dsl {w : World} {g n : Nat} {ds : List (List UInt8)} {m : List UInt8} (hn : n = ds.length) (hr : n ≤ 1000) (h32 : ∀ d ∈ ds, d.length = 32) (hm : m.length = 32) (hg : Row w g 23 (dcells (ds ++ List.replicate 80 m))) : DsL w (.slice (some ⟨g, 0, none⟩) n (n + 80)) ds (fun k => k = g) := by
  have h32f : ∀ d ∈ ds ++ List.replicate 80 m, d.length = 32 := fun d hd => by
    rcases List.mem_append.1 hd with h | h
    · exact h32 d h
    · rw [(List.mem_replicate.1 h).2, hm]
  refine ⟨_, _, by rw [← hn], by omega, by unfold maxLen; omega, h32, by simp, fun a ha => ?_⟩
  injection ha with ha
  subst ha
  refine ⟨rfl, fun _ => rfl, fun i hi j v hv => ?_⟩
  have hj : j < 32 := by
    have := (List.getElem?_eq_some_iff.1 hv).1
    rwa [List.length_map, getD32 h32 i hi] at this
  rw [Nat.zero_add, hg.cell, dcells_at _ h32f i j (by rw [List.length_append]; omega) hj, List.getD_eq_getElem?_getD, List.getElem?_append_left hi, ← List.getD_eq_getElem?_getD]
  exact hv
theorem eq_ag (l : List UInt8) (hl : l.length = 32) (X : Array Value) (hX : X = (l.map u8).toArray) (w : World) : (binOp .neq 23 (.agg X) (.agg X)).run Tryd.prog w = .ok (.bool false) w := by
  rw [hX, neq_digest l l hl hl]
  simp
set_option maxHeartbeats 4000000 in
set_option maxRecDepth 100000 in
theorem walk (width : Int) (hw : -9223372036854775808 ≤ width ∧ width ≤ 9223372036854775807) (ao : Option Addr) (n0 cap : Nat) (ds0 : List (List UInt8)) (w : World) (hs0 : DsL w (.slice ao n0 cap) ds0 (fun k => k < w.heap.size)) (hk : Kw w) (hg : 2 < w.heap.size) :
    Calls Tryd.prog 4 #[.int .i64 width, .slice ao n0 cap] w fun e w' => e = .returned (.bool true) ∧ Upd (fun _ => False) w w' := by
  have hn0 : n0 = ds0.length := by obtain ⟨_, _, h, _⟩ := hs0; injection h
  have hc : n0 ≤ cap ∧ cap ≤ maxLen := by
    obtain ⟨_, _, h, h1, h2, _⟩ := hs0
    injection h with e1 e2 e3
    subst e3
    exact ⟨by omega, h2⟩
  have HFw := Lib.hid (few_any ao n0 cap hc.1 hc.2 w)
  obtain ⟨n, hn⟩ : ∃ n, n = min n0 300 := ⟨_, rfl⟩
  obtain ⟨ds, hds⟩ : ∃ d, d = ds0.take n := ⟨_, rfl⟩
  have hs := DsL.take hs0 (show n ≤ n0 by omega)
  rw [← hds] at hs
  rw [← hn] at HFw
  have hnl : n = ds.length := by rw [hds, List.length_take]; omega
  have h32 : ∀ d ∈ ds, d.length = 32 := by obtain ⟨_, _, _, _, _, h3, _⟩ := hs; exact h3
  have hn300 : n ≤ 300 := by omega
  have Hs := Lib.hid hs
  have Hk := Lib.hid hk
  have Hnl := Lib.hid hnl
  have H32 := Lib.hid h32
  obtain ⟨R, hR⟩ : ∃ X, X = ((rootM width ds).map u8).toArray := ⟨_, rfl⟩
  obtain ⟨F, hF⟩ := show ∃ X, X = ((foldM width ds).map u8).toArray from ⟨_, rfl⟩
  obtain ⟨M, hM⟩ : ∃ X, X = (str6.map u8).toArray := ⟨_, rfl⟩
  have lm : str6.length = 32 := rfl
  have hqR := eq_ag (rootM width ds) (root_len width ds h32) R hR
  have hqF := eq_ag (foldM width ds) (fold_len width ds h32) F hF
  have HSt : Hid (∀ w', Calls Tryd.prog 18 #[] w' fun e w'' => e = .returned (.agg M) ∧ Upd (fun _ => False) w' w'') := fun w' => by rw [hM]; exact stranger_any w'
  have HRy : Hid (∀ w', Upd (fun _ => False) w w' → Calls Tryd.prog 17 #[.slice ao n cap, .agg M] w' (RoomyAt w' n ds str6)) := fun w' hu => by rw [hM]; exact roomy_ds ao n cap ds _ str6 lm w' (hs.upd hu (fun _ _ => id)) (by omega)
  have HIn : Hid (∀ g w', Upd (fun _ => False) w w' → Row w' g 23 (dcells (ds ++ List.replicate 80 str6)) → Calls Tryd.prog 22 #[.slice (some ⟨g, 0, none⟩) (n + 80) (n + 80), .slice ao n cap, .agg M] w' fun e w'' => e = .returned (.bool true) ∧ Upd (fun _ => False) w' w'') := fun g w' hu hr => by rw [hM]; exact intact_ds g n ao cap ds _ str6 lm w' hnl (by omega) hr (hs.upd hu (fun _ _ => id))
  have HRo : Hid (∀ g w', Upd (fun _ => False) w w' → Row w' g 23 (dcells (ds ++ List.replicate 80 str6)) → Calls Tryd.prog 14 #[.int .i64 width, .slice (some ⟨g, 0, none⟩) n (n + 80)] w' fun e w'' => e = .returned (.agg R) ∧ Upd (fun _ => False) w' w'') := fun g w' hu hr => by
    rw [hR]
    exact root_any width n _ _ ds _ w' hnl (by omega) (row_dsl hnl (by omega) h32 lm hr) (fun k e => by rw [e]; exact hr.lt) (hk.upd hu id) (by have := hu.size; omega)
  have HFo : Hid (∀ g w', Upd (fun _ => False) w w' → Row w' g 23 (dcells (ds ++ List.replicate 80 str6)) → Calls Tryd.prog 20 #[.int .i64 width, .slice (some ⟨g, 0, none⟩) n (n + 80)] w' fun e w'' => e = .returned (.agg F) ∧ Upd (fun _ => False) w' w'') := fun g w' hu hr => by
    rw [hF]
    exact fold_any width n _ _ ds _ w' hnl (by omega) (row_dsl hnl (by omega) h32 lm hr) (fun k e => by rw [e]; exact hr.lt) (hk.upd hu id) (by have := hu.size; omega)
  have HRr : Hid (∀ w', Upd (fun _ => False) w w' → Calls Tryd.prog 19 #[.int .i64 width, .slice ao n cap] w' fun e w'' => e = .returned (.agg R) ∧ Upd (fun _ => False) w' w'') := fun w' hu => by
    rw [hR]
    exact rroot_any width hw n ao cap ds _ w' hnl hn300 (hs.upd hu (fun _ _ => id)) (fun k hk => by have := hu.size; omega)
  have HFr : Hid (∀ w', Upd (fun _ => False) w w' → Calls Tryd.prog 21 #[.int .i64 width, .slice ao n cap] w' fun e w'' => e = .returned (.agg F) ∧ Upd (fun _ => False) w' w'') := fun w' hu => by
    rw [hF]
    exact rfold_any width hw n ao cap ds _ w' hnl (by omega) (hs.upd hu (fun _ _ => id)) (fun k hk => by have := hu.size; omega)
  have d1 : ¬ n + 80 < n := by omega
  have d2 : (n : Int) ≤ (n : Int) + 80 := by omega
  clear hn0 hc hs hs0 hds hn hk hnl h32 hR hF hM lm
  go_enter Tryd.func4, Tryd.ntmps4
  go_wp2_with fail
  refine HFw.out.mono ?_
  rintro e w1 ⟨rfl, rfl⟩
  go_wp2_with fail
  refine (HSt.out _).mono ?_
  rintro e w2 ⟨rfl, hu2⟩
  have HU2 := Lib.hid hu2
  clear hu2
  go_wp2_with fail
  refine (HRy.out _ HU2.out).mono ?_
  rintro e w3 ⟨g, rfl, hg3, hr3, hu3⟩
  have HU3 : Hid (Upd (fun _ => False) w w3) := HU2.out.trans (hu3.mono (fun _ _ e => e.elim))
  have HR3 := Lib.hid hr3
  clear hu3 hr3 hg3
  go_wp2_with fail
  refine (HRo.out g _ HU3.out HR3.out).mono ?_
  rintro e w4 ⟨rfl, hu4⟩
  have HU4 : Hid (Upd (fun _ => False) w w4) := HU3.out.trans (hu4.mono (fun _ _ e => e.elim))
  have HR4 : Hid (Row w4 g 23 (dcells (ds ++ List.replicate 80 str6))) := HR3.out.upd hu4 id
  clear hu4
  go_wp2_with fail
  refine (HRr.out _ HU4.out).mono ?_
  rintro e w5 ⟨rfl, hu5⟩
  have HU5 : Hid (Upd (fun _ => False) w w5) := HU4.out.trans (hu5.mono (fun _ _ e => e.elim))
  have HR5 : Hid (Row w5 g 23 (dcells (ds ++ List.replicate 80 str6))) := HR4.out.upd hu5 id
  clear hu5
  go_wp2_with fail
  refine (HFo.out g _ HU5.out HR5.out).mono ?_
  rintro e w6 ⟨rfl, hu6⟩
  have HU6 : Hid (Upd (fun _ => False) w w6) := HU5.out.trans (hu6.mono (fun _ _ e => e.elim))
  have HR6 : Hid (Row w6 g 23 (dcells (ds ++ List.replicate 80 str6))) := HR5.out.upd hu6 id
  clear hu6
  go_wp2_with fail
  refine (HFr.out _ HU6.out).mono ?_
  rintro e w7 ⟨rfl, hu7⟩
  have HU7 : Hid (Upd (fun _ => False) w w7) := HU6.out.trans (hu7.mono (fun _ _ e => e.elim))
  have HR7 : Hid (Row w7 g 23 (dcells (ds ++ List.replicate 80 str6))) := HR6.out.upd hu7 id
  clear hu7
  go_wp2_with fail
  refine (HSt.out _).mono ?_
  rintro e w8 ⟨rfl, hu8⟩
  have HU8 : Hid (Upd (fun _ => False) w w8) := HU7.out.trans (hu8.mono (fun _ _ e => e.elim))
  have HR8 : Hid (Row w8 g 23 (dcells (ds ++ List.replicate 80 str6))) := HR7.out.upd hu8 id
  clear hu8
  go_wp2_with fail
  refine (HIn.out g _ HU8.out HR8.out).mono ?_
  rintro e w9 ⟨rfl, hu9⟩
  have HU9 : Hid (Upd (fun _ => False) w w9) := HU8.out.trans (hu9.mono (fun _ _ e => e.elim))
  clear hu9
  go_wp2
  go_ret
  exact ⟨rfl, HU9.out⟩
end Go.Proofs.YtgcionimhmbgeaaDoorR.TrW
