/-
  docketbook.Book[byte]: Stays.
-/
import Derived.Test.YtgfdnljblfkhkabDoorBookK
namespace Go.Proofs.YtgfdnljblfkhkabDoor.BookS
open Go.RowKit Sha Mem RowW CopyW BookW OffR BookM BookK
set_option linter.unusedVariables false
set_option linter.unusedSimpArgs false

set_option maxHeartbeats 4000000 in
set_option maxRecDepth 100000 in
theorem stays_any (b o : Nat) (T : TypeId) (cs : List Value) (K : List Ent) (R O : Nat → Prop) (lv wv : Value) (hv : Int) (w : World) (hk : Bk w b T cs o K R O lv wv hv) (hlen : K.length ≤ 4000) :
    Calls Tryd.prog 37 #[.pointer (some ⟨b, o, none⟩)] w fun e w' => e = .returned (.bool true) ∧ Upd (fun _ => False) w w' := by
  obtain ⟨la, lc, hlv, hl1, hl2⟩ := hk.lrow.form
  obtain ⟨N, hN⟩ : ∃ x, x = K.length := ⟨_, rfl⟩
  rw [List.length_map, ← hN] at hlv hl1
  subst hlv
  have HBk := Lib.hid hk
  have HN := Lib.hid hN
  have HLen := Lib.hid hlen
  have HL1 := Lib.hid hl1
  have HL2 := Lib.hid hl2
  clear hk hN hlen hl1 hl2
  go_enter Tryd.func37, Tryd.ntmps37
  go_wp2
  go_loopw [3] (fun i wr => ∃ k : Nat, k ≤ N ∧ i = .int .i64 k ∧ Upd (fun _ => False) w wr) (fun i _ => N - (intOf i).toNat)
  case atStart => exact ⟨0, Nat.zero_le _, rfl, Upd.refl _ _⟩
  case round =>
    obtain ⟨k, hkN, rfl, hu⟩ := hrel
    have HB : Hid (Bk wr b T cs o K R O (.slice la N lc) wv hv) := HBk.out.upd hu id (fun _ _ _ => id) (fun _ _ _ => id)
    have HU := Lib.hid hu
    clear hu
    have c0 : wr.cell? ⟨b, o, none⟩ = some (.slice la N lc) := by rw [HB.out.row.cell]; exact HB.out.c0
    have c3 : wr.cell? ⟨b, o + 3, none⟩ = some (.bool false) := by rw [HB.out.row.cell]; exact HB.out.c3
    have f3 := HB.out.row.frozen (o + 3)
    by_cases hlt : k < N
    · have hltI : (k : Int) < (N : Int) := by omega
      have hk4 : k ≤ 4000 := by have := HLen.out; have := HN.out; omega
      have hkl : k < K.length := by rw [← HN.out]; exact hlt
      obtain ⟨lg, lo, lc', hlv, _, _, hcl, _⟩ := HB.out.lrow.some (by rw [List.length_map]; omega)
      obtain ⟨wg, wo, wcp, hwv, hw1, hw2, hcw, _⟩ := HB.out.wrow.some (by rw [List.length_map]; omega)
      rw [List.length_map, ← HN.out] at hlv hwv hw1
      injection hlv with e1 e2 e3
      subst e1 e3
      subst hwv
      clear e2
      have ce := hcl k (by rw [List.length_map]; exact hkl)
      have cu := hcw k (by rw [List.length_map]; exact hkl)
      obtain ⟨e1, he1⟩ : ∃ x, x = K[k] := ⟨_, rfl⟩
      have hE1 := HB.out.ents e1 (by rw [he1]; exact List.getElem_mem hkl)
      have ev : (K.map Ent.v).getD k undef = e1.v := by rw [List.getD_eq_getElem?_getD, List.getElem?_map, List.getElem?_eq_getElem hkl, he1]; rfl
      have eu : (K.map Ent.u).getD k undef = e1.u := by rw [List.getD_eq_getElem?_getD, List.getElem?_map, List.getElem?_eq_getElem hkl, he1]; rfl
      rw [ev] at ce
      rw [eu] at cu
      clear ev eu he1 hcl hcw
      obtain ⟨v1, u1, x1⟩ := e1
      have hE1o := hE1.own
      have hE1w := hE1.was
      dsimp only at hE1o hE1w ce cu
      obtain ⟨va, vc, rfl⟩ := IntsW.slice_form hE1o
      obtain ⟨ua, uc1, rfl⟩ := IntsW.slice_form hE1w
      obtain ⟨xn, hxn⟩ : ∃ x, x = x1.length := ⟨_, rfl⟩
      have hxl := hE1.len
      dsimp only at hxl
      have HSA : Hid (Sl wr (.slice va xn vc) x1) := by show Sl _ _ _; rw [hxn]; exact Sl.of_own hE1o
      have HSB : Hid (Sl wr (.slice ua xn uc1) x1) := by show Sl _ _ _; rw [hxn]; exact Sl.of_own hE1w
      rw [← hxn] at ce cu hxl
      clear hE1o hE1w hE1 hxn
      have HSm := Lib.hid (fun w' => same_any va ua xn vc uc1 x1 w')
      have Hxl := Lib.hid hxl
      have c1 : wr.cell? ⟨b, o + 1, none⟩ = some (.slice (some ⟨wg, wo, none⟩) N wcp) := by rw [HB.out.row.cell]; exact HB.out.c1
      clear hxl hw1 hw2
      have HS : Hid (∀ w', Upd (fun _ => False) wr w' → (w'.cell? ⟨b, o, none⟩ = some (.slice (some ⟨lg, lo, none⟩) N lc) ∧ w'.cell? ⟨b, o + 1, none⟩ = some (.slice (some ⟨wg, wo, none⟩) N wcp) ∧ w'.cell? ⟨b, o + 3, none⟩ = some (.bool false) ∧ w'.frozen? ⟨b, o + 3, none⟩ = false ∧
          w'.cell? ⟨lg, lo + k, none⟩ = some (.slice va xn vc) ∧ w'.cell? ⟨wg, wo + k, none⟩ = some (.slice ua xn uc1)) ∧ Upd (fun _ => False) wr w') := fun w' hq =>
        ⟨⟨hq.cell c0 id, hq.cell c1 id, hq.cell c3 id, (HB.out.row.upd hq id).frozen _, hq.cell ce id, hq.cell cu id⟩, hq⟩
      go_upto_region 4 with fail
      go_region_held3 (fun w' => (w'.cell? ⟨b, o, none⟩ = some (.slice (some ⟨lg, lo, none⟩) N lc) ∧ w'.cell? ⟨b, o + 1, none⟩ = some (.slice (some ⟨wg, wo, none⟩) N wcp) ∧ w'.cell? ⟨b, o + 3, none⟩ = some (.bool false) ∧ w'.frozen? ⟨b, o + 3, none⟩ = false ∧
          w'.cell? ⟨lg, lo + k, none⟩ = some (.slice va xn vc) ∧ w'.cell? ⟨wg, wo + k, none⟩ = some (.slice ua xn uc1)) ∧ Upd (fun _ => False) wr w')
        (first
          | exact HS.out _ ((Upd.refl _ wr).drew)
          | (obtain ⟨_, hq⟩ := ‹_ ∧ Upd (fun _ => False) wr _›; exact HS.out _ (hq.trans (hu9.mono (fun _ _ h => h.elim))))
          | (obtain ⟨⟨_, _, h3, _⟩, hq⟩ := ‹_ ∧ Upd (fun _ => False) wr _›; rw [setCell_self h3]; exact HS.out _ hq))
        (first
          | (go_at_call 12; obtain ⟨_, hq⟩ := ‹_ ∧ Upd (fun _ => False) wr _›; refine (HSm.out _ (HSA.out.upd hq (fun _ _ => id)) (HSB.out.upd hq (fun _ _ => id)) Hxl.out).mono ?_; rintro e w9 ⟨rfl, hu9⟩))
      have HU2 : Hid (Upd (fun _ => False) w (w9.setCell ⟨b, o + 3, none⟩ (.bool false))) := HU.out.trans ((‹_ ∧ Upd (fun _ => False) wr _›).2.mono (fun _ _ e => e.elim))
      clear HS HSm HSA HSB HB HU c0 c1 c3 f3 ce cu
      go_wp2
      go_roundw
      case rel => exact ⟨k + 1, by omega, by go_num, HU2.out⟩
      case measure => simp [intOf]; omega
    · have hltI : decide ((k : Int) < (N : Int)) = false := by simp; omega
      go_wp2
      go_ret
      exact ⟨rfl, HU.out⟩
end Go.Proofs.YtgfdnljblfkhkabDoor.BookS
