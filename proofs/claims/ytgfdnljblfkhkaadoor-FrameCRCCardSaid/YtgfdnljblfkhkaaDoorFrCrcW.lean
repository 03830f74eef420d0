/-
  docketlaw4.FrameCRC, walked.
-/
import Derived.Test.YtgfdnljblfkhkaaDoorRefCrc
import Derived.Test.YtgfdnljblfkhkaaDoorHeldX
import Derived.Lib.SlBytesConst
import Derived.Laws.OwnMore
namespace Go.Proofs.YtgfdnljblfkhkaaDoor.FrCrcW
open Go.RowKit Sha Mem RowW CopyW BookW HeldW Crc FrTurn RefCrc
set_option linter.unusedVariables false

/-- the first j bytes with their highest bit turned -/
def xsub (L : List UInt8) (j : Nat) : List UInt8 := (L.take j).map (· ^^^ 128) ++ L.drop j
theorem xsub_len (L : List UInt8) (j : Nat) : (xsub L j).length = L.length := by simp [xsub]; omega
theorem xsub_zero (L : List UInt8) : xsub L 0 = L := by simp [xsub]
theorem xsub_set (L : List UInt8) (j : Nat) (hj : j < L.length) : (xsub L j).set j (L.getD j 0 ^^^ 128) = xsub L (j + 1) := by
  unfold xsub
  have hl : ((L.take j).map (· ^^^ 128)).length = j := by simp; omega
  rw [List.set_append_right _ _ (by omega), hl, Nat.sub_self, List.drop_eq_getElem_cons hj, List.set_cons_zero, List.take_succ_eq_append_getElem hj, List.map_append, List.append_assoc]
  simp [List.getD_eq_getElem?_getD, hj]
theorem xsub_at (L : List UInt8) (j : Nat) (hj : j < L.length) : (xsub L j)[j]? = some (L.getD j 0) := by
  have hl : ((L.take j).map (· ^^^ 128)).length = j := by simp; omega
  unfold xsub
  rw [List.getElem?_append_right (by omega), hl, Nat.sub_self, List.getElem?_drop, Nat.add_zero, List.getD_eq_getElem?_getD, List.getElem?_eq_getElem hj]
  rfl
theorem v_xor128 (a : UInt8) : bits .xor .u8 (a.toNat : Int) 128 = ((a ^^^ 128).toNat : Int) := by
  have h := u8_xor_nat a.toNat 128 a.toNat_lt (by decide)
  rw [UInt8.toNat_xor]
  exact h
theorem FL_get (xs : List UInt8) (m : UInt8) (j : Nat) (h : j < xs.length) : (FL xs m).getD j 0 = xs.getD j 0 := by
  unfold FL
  rw [List.getD_eq_getElem?_getD, List.getElem?_append_left h, List.getD_eq_getElem?_getD]
theorem xsub_FL (xs : List UInt8) (m : UInt8) : xsub (FL xs m) xs.length = FL (xsub xs xs.length) m := by
  unfold xsub FL
  rw [List.take_left', List.drop_left', List.take_length, List.drop_length, List.append_nil] <;> rfl

def LX (g : Nat) (ov : Value) (l : List UInt8) (w0 : World) (i : Value) (wr : World) : Prop :=
  ∃ j : Nat, j ≤ l.length ∧ i = .int .i64 j ∧ wr.ownsRow 0 5 1 ov l.length ((xsub l j).map u8) ∧ Row wr g 5 ((xsub (FL l 165) j).map u8) ∧ Upd (fun _ => False) w0 wr

theorem sl_row (w : World) (g : Nat) (T : TypeId) (xs : List UInt8) (fr : Nat × Nat) (n : Nat) (hn : n = xs.length) (hm : xs.length ≤ maxLen) (hg : w.heap[g]? = some (.cells (xs.map u8).toArray T fr)) : Sl w (.slice (some ⟨g, 0, none⟩) n n) xs := by
  subst hn
  refine ⟨_, xs.length, rfl, Nat.le_refl _, hm, by simp, fun a ha => ?_⟩
  injection ha with ha
  subst ha
  refine ⟨rfl, fun i hi => ?_⟩
  rw [add_none, Nat.zero_add, cell_of_row _ _ _ _ _ _ hg, List.getElem?_toArray, List.getElem?_map, List.getD_eq_getElem?_getD, List.getElem?_eq_getElem hi]
  rfl
theorem crc_case : crc [99, 97, 115, 101, 32, 49, 50] = 1624758277 := by decide +kernel

set_option maxHeartbeats 4000000 in
set_option maxRecDepth 100000 in
theorem walk (ao : Option Addr) (n cap : Nat) (l : List UInt8) (w : World) (hs : Sl w (.slice ao n cap) l) (hown : ∀ k, own (.slice ao n cap) k → k < w.heap.size) (hr : n ≤ 140737488351232) (ht : Tw w) :
    Calls Tryd.prog 13 #[.slice ao n cap] w fun e w' => e = .returned (.bool true) ∧ Upd (fun _ => False) w w' := by
  have hnl : n = l.length := by obtain ⟨_, _, h, _⟩ := hs; injection h
  have Hs := Lib.hid hs
  have Ht := Lib.hid ht
  have Hn := Lib.hid hnl
  have Hown := Lib.hid hown
  clear hs ht hnl hown
  have hnc : (n : Int) ≤ (n : Int) + 80 := by omega
  have HRm := Lib.hid (roomy_any ao n cap l 165 w Hs.out (by omega))
  have HC := Lib.hid (fun (g : Nat) (l' : List UInt8) (w' : World) (hu : Upd (fun _ => False) w w') (hll : l'.length = n) (hrow : Row w' g 5 ((FL l' 165).map u8)) =>
    crc_any (some ⟨g, 0, none⟩) n (n + 80) l' w' (by
        have h2 := Sl.of_row (n := n) (cap := n + 80) hrow (by rw [FL_len]; omega) (by omega) (by unfold maxLen; omega)
        rw [← hll, FL_take] at h2
        rw [← hll]
        exact h2) (Ht.out.upd hu id) (by omega))
  have HIn := Lib.hid (fun (g : Nat) (aw : Option Addr) (cw : Nat) (l' : List UInt8) (w' : World) (hll : l'.length = n) (hrow : Row w' g 5 ((FL l' 165).map u8)) (hsl : Sl w' (.slice aw n cw) l') => intact_any ⟨g, 0, none⟩ (n + 80) aw n cw l' 165 w'
    (by have h2 := Sl.row (cap := n + 80) hrow (by rw [FL_len]; omega) (by unfold maxLen; omega)
        rwa [FL_len, hll] at h2) hsl (by omega))
  go_enter Tryd.func13, Tryd.ntmps13
  go_wp2_with fail
  refine HRm.out.mono ?_
  rintro e w1 ⟨g, rfl, hg1, hr1, hu1⟩
  have HR1 := Lib.hid hr1
  have HU1 := Lib.hid hu1
  have hgl1 : g < w1.heap.size := hr1.lt
  clear hr1 hu1
  go_wp2_with fail
  refine (HC.out g l w1 HU1.out Hn.out.symm HR1.out).mono ?_
  rintro e w2 ⟨rfl, rfl⟩
  go_wp2_with fail
  refine (refcrc_any ao n cap l w1 (Hs.out.upd HU1.out (fun _ _ => id)) (by omega)).mono ?_
  rintro e w2 ⟨rfl, rfl⟩
  go_wp2_with fail
  refine (HC.out g l w1 HU1.out Hn.out.symm HR1.out).mono ?_
  rintro e w2 ⟨rfl, rfl⟩
  go_wp2_with fail
  refine (HIn.out g ao cap l w1 Hn.out.symm HR1.out (Hs.out.upd HU1.out (fun _ _ => id))).mono ?_
  rintro e w2 ⟨rfl, hu2⟩
  have HR2 := Lib.hid (HR1.out.upd hu2 id)
  have HU2 : Hid (Upd (fun _ => False) w w2) := HU1.out.trans (hu2.mono (fun _ _ h => h.elim))
  have hgl2 : g < w2.heap.size := by have := hu2.size; omega
  have HS2 := Lib.hid (Hs.out.upd HU2.out (fun _ _ => id))
  clear hu2 HR1 HU1
  go_wp2_with (at_builtin; refine wpList_copy_nil _ rfl _ _ rfl rfl n l Hn.out _ rfl HS2.out (by omega) ?_; intro ao3 cap3 w3 Hown3 Hu3 Hat3)
  have HS : Hid (LX g (.slice ao3 n cap3) l w (.int .i64 0) w3) := by
    refine ⟨0, Nat.zero_le _, rfl, ?_, ?_, HU2.out.trans (Hu3.out.mono (fun _ _ h => h.elim))⟩
    · rw [xsub_zero, ← Hn.out]; exact Hown3.out
    · rw [xsub_zero]; exact HR2.out.upd Hu3.out id
  have Hat : Hid (∀ k, own (.slice ao3 n cap3) k → g < k) := fun k hk => by have := Hat3.out k hk; omega
  clear Hown3 Hu3 Hat3 HR2 HU2
  go_loopw [7] (fun i wr => LX g (.slice ao3 n cap3) l w i wr) (fun i _ => n - (intOf i).toNat)
  case atStart => exact HS.out
  case round =>
    obtain ⟨j, hj, rfl, hown, hrow, hu⟩ := hrel
    have hj' : j ≤ n := by have := Hn.out; omega
    have HO := Lib.hid hown
    have HR := Lib.hid hrow
    have HU := Lib.hid hu
    clear hj hown hrow hu HS
    by_cases hlt : j < n
    · have hltI : (j : Int) < (n : Int) := by omega
      have hjc : (j : Int) < (n : Int) + 80 := by omega
      have hform := HO.out.form (by have := Hn.out; omega)
      obtain ⟨g3, cap3', he, _⟩ := hform
      injection he with e1 e2 e3
      subst e1 e3
      clear e2
      have hne : g ≠ g3 := by have := Hat.out g3 rfl; omega
      have hne' : g3 ≠ g := fun h => hne h.symm
      obtain ⟨c, hc⟩ : ∃ c, c = l.getD j 0 := ⟨_, rfl⟩
      have HO' : Hid (wr.ownsRow 0 5 1 (.slice (some ⟨g3, 0, none⟩) n cap3) n ((xsub l j).map u8)) := by show World.ownsRow _ _ _ _ _ _ _; have := HO.out; rwa [← Hn.out] at this
      have c0 : wr.cell? ⟨g3, j, none⟩ = some (.int .u8 (c.toNat : Int)) := by
        rw [HO'.out.cellAt j (by omega), List.getElem?_map, xsub_at l j (by have := Hn.out; omega), ← hc]
        rfl
      have f0 := HO'.out.frozenAt j
      have c1 : wr.cell? ⟨g, j, none⟩ = some (.int .u8 (c.toNat : Int)) := by
        rw [HR.out.cell, List.getElem?_map, xsub_at _ j (by rw [FL_len]; have := Hn.out; omega), FL_get _ _ _ (by have := Hn.out; omega), ← hc]
        rfl
      have f1 := HR.out.frozen j
      have HC' := Lib.hid hc
      have vx := v_xor128 c
      clear hc HO
      go_wp2
      go_roundw
      case rel =>
        have h1 := HO'.out.stored j (Value.int .u8 ((c ^^^ 128).toNat : Int))
        refine ⟨j + 1, by have := Hn.out; omega, by go_num, ?_, ?_, ?_⟩
        · rw [← xsub_set l j (by have := Hn.out; omega), List.map_set, ← HC'.out, ← Hn.out]
          exact ownsRow_setCell_other h1.1 (by simp [Value.ownBlock]; exact hne') _
        · rw [← xsub_set (FL l 165) j (by rw [FL_len]; have := Hn.out; omega), List.map_set, FL_get _ _ _ (by have := Hn.out; omega), ← HC'.out]
          exact (HR.out.far (by simpa using hne) _).set j _
        · exact (HU.out.put _ _ (.inr (by have := Hat.out g3 rfl; omega)) _).put _ _ (.inr (by omega)) _
      case measure => simp [intOf]; omega
    · obtain rfl : j = n := by omega
      obtain ⟨m, hm⟩ : ∃ m, m = xsub l j := ⟨_, rfl⟩
      have hml : m.length = j := by rw [hm, xsub_len]; exact Hn.out.symm
      have HRf : Hid (Row wr g 5 ((FL m 165).map u8)) := by
        show Row _ _ _ _
        have h := HR.out
        rw [Hn.out, xsub_FL, ← Hn.out, ← hm] at h
        exact h
      have HSo : Hid (Sl wr (.slice ao3 j cap3) m) := by
        have h := HO.out
        rw [← hm] at h
        rw [← Hn.out, ← hml] at h
        rw [← hml]
        exact Sl.of_own h
      have Hml := Lib.hid hml
      clear hm hml HR HO
      go_wp2_with fail
      refine (HC.out g m wr HU.out Hml.out HRf.out).mono ?_
      rintro e w5 ⟨rfl, rfl⟩
      go_wp2_with fail
      refine (refcrc_any ao3 j cap3 m wr HSo.out (by omega)).mono ?_
      rintro e w5 ⟨rfl, rfl⟩
      have kc := fun (w : World) (C : Array Value) (n c : Nat) => Lib.run_convert_bytes_const (P := Tryd.prog) w 25 5 C n c Tryd.underlying25 Tryd.underlying5
      go_wp2_with fail
      have hlit := crc_any (some ⟨wr.heap.size, 0, none⟩) 7 7 [99, 97, 115, 101, 32, 49, 50] (wr.alloc (.cells #[.int .u8 99, .int .u8 97, .int .u8 115, .int .u8 101, .int .u8 32, .int .u8 49, .int .u8 50] 5 (7, 8)))
        (sl_row _ _ 5 _ (7, 8) 7 rfl (by unfold maxLen; simp) (heap_alloc_new _ _)) (Ht.out.upd (HU.out.alloc _) id) (by omega)
      rw [crc_case] at hlit
      refine hlit.mono ?_
      rintro e w5 ⟨rfl, rfl⟩
      have e0 : U 1624758277 = 1624758277 := rfl
      rw [e0]
      clear e0 hlit kc
      go_wp2
      go_ret
      exact ⟨rfl, HU.out.alloc _⟩
end Go.Proofs.YtgfdnljblfkhkaaDoor.FrCrcW
