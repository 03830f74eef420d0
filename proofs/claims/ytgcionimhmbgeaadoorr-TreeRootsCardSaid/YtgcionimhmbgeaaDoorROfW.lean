/-
  digest.Of.
-/
import Derived.Test.YtgcionimhmbgeaaDoorRNewW
import Derived.Test.YtgcionimhmbgeaaDoorRCutW
namespace Go.Proofs.YtgcionimhmbgeaaDoorR.OfW
open Go.RowKit Sha TurnW Mem RowW SpreadW MixW HashM CopyW WriteW WriteN EndW SumH NewW EqW CutW
set_option linter.unusedVariables false

/-- v is a slice of slices of bytes that reads as ts; all of it lies in blocks of O -/
def SlL (w : World) (v : Value) (ts : List (List UInt8)) (O : Nat → Prop) : Prop :=
  ∃ ao cap, ∃ pv : Nat → Value, v = .slice ao ts.length cap ∧ (ao = none → ts.length = 0) ∧ (∀ k, own v k → O k) ∧
    ∀ a, ao = some a → a.spot = none ∧ ∀ i, i < ts.length → w.cell? (a.add i) = some (pv i) ∧ Sl w (pv i) (ts.getD i []) ∧ ∀ k, own (pv i) k → O k
theorem SlL.upd {S O : Nat → Prop} {w w' : World} {v : Value} {ts : List (List UInt8)} (h : SlL w v ts O) (hu : Upd S w w') (hd : ∀ k, O k → ¬ S k) : SlL w' v ts O := by
  obtain ⟨ao, cap, pv, rfl, h3, ho, h4⟩ := h
  refine ⟨ao, cap, pv, rfl, h3, ho, fun a ha => ⟨(h4 a ha).1, fun i hi => ?_⟩⟩
  subst ha
  obtain ⟨hc, hs, hp⟩ := (h4 a rfl).2 i hi
  refine ⟨hu.cell hc (hd _ (ho _ ?_)), hs.upd hu (fun k hk => hd k (hp k hk)), hp⟩
  simp [own, Value.ownBlock, Addr.add]
  split <;> rfl
def cat (ts : List (List UInt8)) : List UInt8 := ts.flatMap id
theorem cat_take (ts : List (List UInt8)) (j : Nat) (h : j < ts.length) : cat (ts.take (j + 1)) = cat (ts.take j) ++ ts.getD j [] := by
  unfold cat
  rw [List.take_succ_eq_append_getElem h, List.flatMap_append]
  congr 1
  simp [List.getD_eq_getElem?_getD, h]
theorem cat_len_take (ts : List (List UInt8)) (j : Nat) : (cat (ts.take j)).length ≤ (cat ts).length := by
  have h := congrArg (fun l => (cat l).length) (List.take_append_drop j ts)
  simp only [cat, List.flatMap_append, List.length_append] at h ⊢
  omega
def byteOf (n : Int) : UInt8 := UInt8.ofNat (n % 256).toNat
theorem v_byteOf (n : Int) : u8 (byteOf n) = .int .u8 (n % 256) := by
  unfold byteOf
  rw [u8_ofNat]
  congr 1
  omega
/-- what Of tells -/
def ofM (width dom : Int) (ts : List (List UInt8)) : List UInt8 := cut (sha (byteOf dom :: cat ts)) width

def LO (b R n : Nat) (d : UInt8) (ts : List (List UInt8)) (w0 : World) (i : Value) (wr : World) : Prop :=
  ∃ j : Nat, j ≤ ts.length ∧ i = .int .i64 j ∧ Hs wr b (d :: cat (ts.take j)) ∧ Row wr R 23 ((List.replicate 32 (0 : UInt8)).map u8) ∧ Upd (fun _ => False) w0 wr

set_option maxHeartbeats 4000000 in
set_option maxRecDepth 100000 in
theorem of_any (width dom : Int) (ao : Option Addr) (cap : Nat) (ts : List (List UInt8)) (O : Nat → Prop) (w : World) (hs : SlL w (.slice ao ts.length cap) ts O) (hO : ∀ k, O k → k < w.heap.size)
    (hk : Kw w) (hg : 2 < w.heap.size) (hn : ts.length ≤ 70368744177664) (hlen : (cat ts).length < 288230376151711744) :
    Calls Tryd.prog 78 #[.int .i64 width, .int .i64 dom, .slice ao ts.length cap] w fun e w' => e = .returned (.agg ((ofM width dom ts).map u8).toArray) ∧ Upd (fun _ => False) w w' := by
  obtain ⟨Y, hY⟩ : ∃ Y, Y = ((ofM width dom ts).map u8).toArray := ⟨_, rfl⟩
  have hl32 : (ofM width dom ts).length = 32 := cut_len _ _ rfl
  have HY1 : Hid (Y.all (·.oneCell') = true) := by show _ = _; rw [hY]; simpa using one_of (ofM width dom ts)
  have HYs : Hid ((Tryd.prog.info? 23).map (·.size) = some Y.size) := by show _ = _; rw [size32, hY]; simp [hl32]
  have HYl : Hid (AD.size = Y.size) := by show _ = _; rw [hY]; simp [hl32, AD]
  have HY := Lib.hid hY
  have Hs_ := Lib.hid hs
  have HO := Lib.hid hO
  have Hk := Lib.hid hk
  have Hg := Lib.hid hg
  have Hlen := Lib.hid hlen
  have hz := zeroD
  clear hY hs hk hg hO hlen hl32
  go_enter Tryd.func78, Tryd.ntmps78
  go_wp2_with fail
  refine (new_at _).mono ?_
  rintro e w1 ⟨b, rfl, hb, hs, hu⟩
  have hb' : w.heap.size < b := by simp at hb; omega
  have hr1 : Row w1 w.heap.size 23 ((List.replicate 32 (0 : UInt8)).map u8) := (Row.new w 23 ((List.replicate 32 (0 : UInt8)).map u8)).upd hu id
  have hu1 : Upd (fun _ => False) w w1 := ((Upd.refl _ w).alloc _).trans (hu.mono (fun _ _ h => h.elim))
  have hblt := hs.lt
  have hsl : Sl (w1.alloc (.cells #[u8 (byteOf dom)] 5)) (.slice (some ⟨w1.heap.size, 0, none⟩) 1 1) [byteOf dom] := by
    refine ⟨_, 1, rfl, by simp, by unfold maxLen; omega, by simp, fun a ha => ?_⟩
    injection ha with ha
    subst ha
    refine ⟨rfl, fun i hi => ?_⟩
    obtain rfl : i = 0 := by simpa using hi
    rw [add_none, cell_of_row _ _ _ _ _ _ (heap_alloc_new _ _)]
    rfl
  have hua : Upd (fun _ => False) w1 (w1.alloc (.cells #[u8 (byteOf dom)] 5)) := (Upd.refl _ _).alloc _
  have HW := Lib.hid (write_any b _ [] [byteOf dom] _ (hs.upd hua id) hsl (by simp [own, Value.ownBlock]; omega) (by have := Hg.out; omega) (Hk.out.upd (hu1.trans (hua.mono fun _ _ h => h.elim)) id) (by simp))
  have HR1 := Lib.hid (hr1.upd hua id)
  have HU1 := Lib.hid (hu1.trans (hua.mono fun _ _ h => h.elim))
  rw [v_byteOf] at HW HR1 HU1
  clear hb hs hu hr1 hu1 hsl hua
  go_wp2_with fail
  refine HW.out.mono ?_
  rintro e w2 ⟨rfl, hs, hu⟩
  rw [List.nil_append] at hs
  have HS : Hid (LO b w.heap.size ts.length (byteOf dom) ts w (.int .i64 0) w2) :=
    ⟨0, Nat.zero_le _, rfl, hs, HR1.out.upd hu (by omega), HU1.out.trans (hu.mono (fun k _ e => .inr (by omega)))⟩
  clear hs hu
  go_wp2
  go_loopw [18] (fun i wr => LO b w.heap.size ts.length (byteOf dom) ts w i wr) (fun i _ => (ts.length - (intOf i).toNat))
  case atStart => exact HS.out
  case round =>
    clear HS
    obtain ⟨j, hj, rfl, hs, hr, hu⟩ := hrel
    have HH := Lib.hid hs
    have HR := Lib.hid hr
    have HU := Lib.hid hu
    clear hs hr hu
    by_cases hlt : j < ts.length
    · have hltI : (j : Int) < (ts.length : Int) := by omega
      obtain ⟨ao', cap', pv, e1, h3, ho, h4⟩ := Hs_.out.upd HU.out (fun _ _ => id)
      injection e1 with e1 e2 e3
      subst e1 e3
      cases ao with
      | none => have := h3 rfl; omega
      | some a =>
        obtain ⟨c, o, sp⟩ := a
        obtain rfl : sp = none := (h4 _ rfl).1
        obtain ⟨hc, hs, hp⟩ := (h4 _ rfl).2 j hlt
        rw [add_none] at hc
        have HP := Lib.hid hp
        have HSl := Lib.hid hs
        clear h3 h4 ho hs hp e2
        have HW := Lib.hid (write_any b (pv j) _ _ wr HH.out HSl.out (fun hob => by have := HO.out b (HP.out b hob); omega) (by have := Hg.out; omega) (Hk.out.upd HU.out id)
          (by have h1 := cat_len_take ts (j + 1); rw [cat_take ts j hlt, List.length_append] at h1; have := Hlen.out; rw [List.length_cons]; omega))
        go_wp2_with (go_at_call 89; refine HW.out.mono ?_; rintro e w3 ⟨rfl, hs3, hu3⟩; have HS3 := Lib.hid hs3; have HU3 := Lib.hid hu3; clear hs3 hu3)
        go_roundw
        case rel => exact ⟨j + 1, by omega, by go_num, by rw [cat_take ts j hlt, ← List.cons_append]; exact HS3.out, HR.out.upd HU3.out (by omega), HU.out.trans (HU3.out.mono (fun k _ e => .inr (by omega)))⟩
        case measure => simp [intOf]; omega
    · obtain rfl : j = ts.length := by omega
      have hh := HH.out
      rw [List.take_length] at hh
      have HSm := Lib.hid (sum_any b _ wr hh (Hk.out.upd HU.out id) (by have := Hg.out; have := HU.out.size; omega) (by have := Hlen.out; rw [List.length_cons]; omega))
      clear hh
      go_wp2_with (first
        | (go_at_call 90; refine HSm.out.mono ?_; rintro e w4 ⟨rfl, hu4⟩; have HU4 := Lib.hid hu4; clear hu4)
        | (go_at_call 68; refine (cut_any (sha (byteOf dom :: cat ts)) rfl width _).mono ?_; rintro e w5 ⟨rfl, hu5⟩; have HU5 := Lib.hid hu5; have HR5 : Hid (w5.heap[w.heap.size]? = some (.cells AD 23 (0, 0))) := (HR.out.upd HU4.out id).upd hu5 id; clear hu5)
        | ((with_reducible refine wpList_store_new (o := ⟨none, .store 23 (.tmp 6) (.tmp 29), _, _, _, _⟩) ?_ _ (.tmp 6) (.tmp 29) ?_ w.heap.size Y ?_ ?_ 23 AD HR5.out HYs.out HYl.out HY1.out ?_); rfl; rfl; rfl; (rw [HY.out]; rfl); intro w6 Hg6 Hu6))
      refine bodyPost_ret (results_cell_row rfl _ _ w.heap.size 23 Y (0, 0) _ rfl Hg6.out Tryd.underlying23 rfl HYs.out) rfl ?_
      exact ⟨by rw [← HY.out], ((HU.out.trans (HU4.out.mono (fun _ _ h => h.elim))).trans (HU5.out.mono (fun _ _ h => h.elim))).trans (Hu6.out.mono (fun k hk e => .inr (by omega)))⟩
end Go.Proofs.YtgcionimhmbgeaaDoorR.OfW
