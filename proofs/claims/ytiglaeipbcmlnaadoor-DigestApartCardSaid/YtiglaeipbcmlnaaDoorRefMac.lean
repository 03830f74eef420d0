/-
  docketref2.Mac of every key and message.
-/
import Derived.Test.YtiglaeipbcmlnaaDoorRefW3
import Derived.Test.YtiglaeipbcmlnaaDoorMacL
import Derived.Test.YtiglaeipbcmlnaaDoorSumsW
import Derived.Deep.Cut
namespace Go.Proofs.YtiglaeipbcmlnaaDoor.RefMac
open Go.RowKit Sha TurnW Mem RowW CopyW WriteW EqW SumH NewW BookW PadW MacW RefW3 HashM HeldW SumsW
set_option linter.unusedVariables false
set_option linter.unusedSimpArgs false

theorem own_upd {w w' : World} {v : Value} {n : Nat} {l : List UInt8} {S : Nat → Prop} (h : w.ownsRow 0 5 1 v n (l.map u8)) (hu : Upd S w w') (hv : ∀ k, own v k → ¬ S k) : w'.ownsRow 0 5 1 v n (l.map u8) := by
  obtain ⟨h1, h2⟩ := h
  refine ⟨h1, ?_⟩
  rcases h2 with h2 | ⟨g, cap, cur, rfl, hg, hh, r⟩
  · exact .inl h2
  · exact .inr ⟨g, cap, cur, rfl, hg, by rw [hu.block g (lt_of_block hh) (hv g rfl)]; exact hh, r⟩
theorem own_lt {w : World} {v : Value} {n : Nat} {l : List Value} (h : w.ownsRow 0 5 1 v n l) (k : Nat) (hk : own v k) : k < w.heap.size := by
  rcases h.2 with ⟨rfl, _⟩ | ⟨g, cap, cur, rfl, hg, hh, r⟩
  · simp [own, Value.ownBlock] at hk
  · simp [own, Value.ownBlock] at hk
    rw [← hk]; exact lt_of_block hh
theorem of_at {v v' : Value} {w : World} (h : v'.ownBlock = v.ownBlock ∨ v'.ownBlock = some w.heap.size) (k : Nat) (hk : own v' k) : own v k ∨ k = w.heap.size := by
  rcases h with h | h
  · left; unfold own at hk ⊢; rw [← h]; exact hk
  · right; unfold own at hk; rw [h] at hk; cases hk; rfl
theorem v_xor (a p : UInt8) : bits .xor .u8 (a.toNat : Int) (p.toNat : Int) = ((a ^^^ p).toNat : Int) := by
  rw [u8_xor_nat _ _ a.toNat_lt p.toNat_lt, UInt8.toNat_xor]
theorem xor_take (k : List UInt8) (p : UInt8) (j : Nat) (h : j < k.length) : xorAll (k.take (j + 1)) p = xorAll (k.take j) p ++ [k.getD j 0 ^^^ p] := by
  unfold xorAll
  rw [List.take_succ_eq_append_getElem h, List.map_append, List.getD_eq_getElem?_getD, List.getElem?_eq_getElem h]
  rfl
theorem block_at (k : List UInt8) (j : Nat) (h : j < k.length) : (block k).getD j 0 = k.getD j 0 := by
  unfold block
  rw [List.getD_eq_getElem?_getD, List.getElem?_append_left h, List.getD_eq_getElem?_getD]
theorem block_past (k : List UInt8) (j : Nat) (h : k.length ≤ j) : (block k).getD j 0 = 0 := by
  unfold block
  rw [List.getD_eq_getElem?_getD, List.getElem?_append_right h, List.getElem?_replicate]
  split <;> rfl
theorem lit_at (w : World) (c : UInt8) (x : Int) (hx : x = (c.toNat : Int)) : Sl (w.alloc (.cells #[.int .u8 x] 5)) (.slice (some ⟨w.heap.size, 0, none⟩) 1 1) [c] := by
  subst hx
  have h : Row (w.alloc (.cells #[.int .u8 (c.toNat : Int)] 5)) w.heap.size 5 ([c].map u8) := Row.new w 5 ([c].map u8)
  exact Sl.row (cap := 1) h (Nat.le_refl _) (by unfold maxLen; omega)
theorem sl_some {w : World} {ka : Option Addr} {n cap : Nat} {l : List UInt8} (h : Sl w (.slice ka n cap) l) (hl : 0 < l.length) : ∃ b o, ka = some ⟨b, o, none⟩ ∧ ∀ i, i < l.length → w.cell? ⟨b, o + i, none⟩ = some (Mem.u8 (l.getD i 0)) := by
  obtain ⟨ao, cap', h1, h2, h3, h4, h5⟩ := h
  injection h1 with e1 e2 e3
  subst e1
  cases ka with
  | none => have := h4 rfl; omega
  | some a =>
    obtain ⟨b, o, sp⟩ := a
    obtain ⟨hs, hc⟩ := h5 _ rfl
    obtain rfl : sp = none := hs
    exact ⟨b, o, rfl, fun i hi => by have := hc i hi; rwa [add_none] at this⟩
theorem lit_one (w : World) (c : UInt8) : Sl (w.alloc (.cells #[.int .u8 (c.toNat : Int)] 5)) (.slice (some ⟨w.heap.size, 0, none⟩) 1 1) [c] := by
  have h : Row (w.alloc (.cells #[.int .u8 (c.toNat : Int)] 5)) w.heap.size 5 ([c].map u8) := Row.new w 5 ([c].map u8)
  exact Sl.row (cap := 1) h (Nat.le_refl _) (by unfold maxLen; omega)
def LM (k : List UInt8) (wB : World) (vi vo i : Value) (wr : World) : Prop :=
  ∃ j : Nat, j ≤ 64 ∧ i = .int .i64 j ∧ wr.ownsRow 0 5 1 vi j ((xorAll ((block k).take j) 54).map u8) ∧ wr.ownsRow 0 5 1 vo j ((xorAll ((block k).take j) 92).map u8) ∧
    (∀ b, own vi b → wB.heap.size ≤ b) ∧ (∀ b, own vo b → wB.heap.size ≤ b) ∧ (∀ b, own vi b → ¬ own vo b) ∧ Upd (fun _ => False) wB wr

set_option maxHeartbeats 16000000 in
set_option maxRecDepth 100000 in
theorem refmac_short (ka : Option Addr) (kn kc : Nat) (ma : Option Addr) (mn mc : Nat) (key msg : List UInt8) (w : World) (hkey : Sl w (.slice ka kn kc) key) (hm : Sl w (.slice ma mn mc) msg) (hkl : kn ≤ 64)
    (hown : ∀ k, own (.slice ma mn mc) k → k < w.heap.size) (hlen : mn ≤ 140737488351232) :
    Calls Tryd.prog 20 #[.slice ka kn kc, .slice ma mn mc] w fun e w' => e = .returned (.agg ((macM key msg).map u8).toArray) ∧ Upd (fun _ => False) w w' := by
  obtain ⟨Y, hY⟩ : ∃ Y, Y = ((macM key msg).map u8).toArray := ⟨_, rfl⟩
  have HY := Lib.hid hY
  have Hkey := Lib.hid hkey
  have Hm := Lib.hid hm
  have Hown := Lib.hid hown
  have hz := zeroD
  have hklI : (kn : Int) ≤ 64 := by omega
  have HB : Hid (Upd (fun _ => False) w (w.alloc (.cells AD 23))) := (Upd.refl _ w).alloc _
  obtain ⟨wB, hwB⟩ : ∃ wB, wB = w.alloc (.cells AD 23) := ⟨_, rfl⟩
  have HY1 : Hid (Y.all (·.oneCell') = true) := by show _ = _; rw [hY]; simpa using one_of (macM key msg)
  have HYs : Hid ((Tryd.prog.info? 23).map (·.size) = some Y.size) := by show _ = _; rw [size32, hY]; rfl
  have HYl : Hid (AD.size = Y.size) := by show _ = _; rw [hY]; rfl
  have hkn : kn = key.length := by obtain ⟨_, _, h, _⟩ := hkey; injection h
  have HK64 : Hid (key.length ≤ 64) := by show _ ≤ _; omega
  have HKn := Lib.hid hkn
  have HKey : Hid (Sl wB (.slice ka kn kc) key) := by show Sl _ _ _; rw [hwB]; exact hkey.upd HB.out (fun _ _ => id)
  have HR0 : Hid (wB.heap[w.heap.size]? = some (.cells AD 23 (0, 0))) := by show _ = _; rw [hwB]; exact heap_alloc_new _ _
  clear hY hkey hm hown hkn
  go_enter Tryd.func20, Tryd.ntmps20
  go_upto_region 4 with (fail)
  rw [← hwB]
  rw [← hwB] at HB
  have HL0 : Hid (LM key wB (.slice none 0 0) (.slice none 0 0) (.int .i64 0) wB) := ⟨0, by omega, rfl, by rw [List.take_zero]; exact own_nil _, by rw [List.take_zero]; exact own_nil _, by simp [own, Value.ownBlock], by simp [own, Value.ownBlock], by simp [own, Value.ownBlock], Upd.refl _ _⟩
  go_wp2
  go_loopw [6, 7, 8] (fun vi vo i wr => LM key wB vi vo i wr) (fun _ _ i _ => (64 - intOf i).toNat)
  case atStart => exact HL0.out
  case round =>
    clear HL0 hwB hz
    obtain ⟨j, hj, rfl, hoi, hoo, hni, hno, hnd, hu⟩ := hrel
    have HOi := Lib.hid hoi
    have HOo := Lib.hid hoo
    have HNi := Lib.hid hni
    have HNo := Lib.hid hno
    have HNd := Lib.hid hnd
    have HU := Lib.hid hu
    clear hoi hoo hni hno hnd hu
    by_cases hlt : j < 64
    · have hltI : (j : Int) < 64 := by omega
      obtain ⟨c, hc⟩ : ∃ c, c = (block key).getD j 0 := ⟨_, rfl⟩
      have HC := Lib.hid hc
      have HXi : Hid (xorAll ((block key).take (j + 1)) 54 = xorAll ((block key).take j) 54 ++ [c ^^^ 54]) := by show _ = _; rw [hc]; exact xor_take _ _ _ (by rw [block_len _ HK64.out]; exact hlt)
      have HXo : Hid (xorAll ((block key).take (j + 1)) 92 = xorAll ((block key).take j) 92 ++ [c ^^^ 92]) := by show _ = _; rw [hc]; exact xor_take _ _ _ (by rw [block_len _ HK64.out]; exact hlt)
      obtain ⟨li, hli⟩ : ∃ l, l = xorAll ((block key).take j) 54 := ⟨_, rfl⟩
      obtain ⟨lo, hlo⟩ : ∃ l, l = xorAll ((block key).take j) 92 := ⟨_, rfl⟩
      have hlil : li.length = j := by rw [hli]; simp [xorAll, block_len _ HK64.out]; omega
      have hlol : lo.length = j := by rw [hlo]; simp [xorAll, block_len _ HK64.out]; omega
      rw [← hli] at HOi HXi
      rw [← hlo] at HOo HXo
      have Hl1 : Hid (li.length + [c ^^^ 54].length ≤ maxLen) := by show _ ≤ _; rw [hlil]; unfold maxLen; simp; omega
      have Hl2 : Hid (li.length + [c ^^^ 54].length ≤ 140737488355328) := by show _ ≤ _; rw [hlil]; simp; omega
      have Hl3 : Hid (lo.length + [c ^^^ 92].length ≤ maxLen) := by show _ ≤ _; rw [hlol]; unfold maxLen; simp; omega
      have Hl4 : Hid (lo.length + [c ^^^ 92].length ≤ 140737488355328) := by show _ ≤ _; rw [hlol]; simp; omega
      have Hlil := Lib.hid hlil
      have Hlol := Lib.hid hlol
      have hwB : wB.heap.size ≤ wr.heap.size := HU.out.size
      clear hc hli hlo hlil hlol
      by_cases hk : j < kn
      · have hkI : (j : Int) < (kn : Int) := by omega
        have hkk : j < key.length := by have := HKn.out; omega
        obtain ⟨pa, oa, rfl, hca⟩ := sl_some (HKey.out.upd HU.out (fun _ _ => id)) (by omega)
        have c0 := hca j hkk
        rw [← block_at key j hkk, ← HC.out] at c0
        clear hca
        unfold Mem.u8 at c0
        clear hkk
        have vi : bits .xor .u8 (c.toNat : Int) 54 = ((c ^^^ 54).toNat : Int) := v_xor c 54
        have vo : bits .xor .u8 (c.toNat : Int) 92 = ((c ^^^ 92).toNat : Int) := v_xor c 92
        have X54 := Lib.hid (show ((c ^^^ 54).toNat : Int) = ((c ^^^ 54).toNat : Int) from rfl)
        have X92 := Lib.hid (show ((c ^^^ 92).toNat : Int) = ((c ^^^ 92).toNat : Int) from rfl)
        have HOi1 : Hid (World.ownsRow (wr.alloc (.cells #[.int .u8 ((c ^^^ 54).toNat : Int)] 5)) 0 5 1 u6 li.length (li.map Mem.u8)) := by
          show World.ownsRow _ _ _ _ _ _ _
          rw [Hlil.out]; exact own_upd HOi.out ((Upd.refl (fun _ => False) wr).alloc _) (fun _ _ => id)
        have HSi1 := Lib.hid (lit_at wr (c ^^^ 54) ((c ^^^ 54).toNat : Int) X54.out)
        go_upto_region 12 with ((at_builtin; (refine wpList_append_bytes (o := ⟨some 33, _, _, _, _, _⟩) _ ?_ (.tmp 29) (.tmp 32) ?_ 0 u6 li [c ^^^ 54] ?_ HOi1.out (.slice (some ⟨wr.heap.size, 0, none⟩) 1 1) ?_ HSi1.out Hl1.out Hl2.out (Nat.zero_le _) ?_); rfl; rfl; rfl; rfl; intro v3 w3 HO3 HG3 HA3))
        have HU3 : Hid (Upd (fun b => own u6 b) wr w3) := ((Upd.refl (fun b => own u6 b) wr).alloc _).trans ((Upd.grown HG3.out (fun b hb => hb) : Upd (fun b => own u6 b) _ w3).mono (fun b _ hb => .inl hb))
        have hs3 : wr.heap.size + 1 ≤ w3.heap.size := by have := HG3.out.size; simpa using this
        have HOo3 := Lib.hid (own_upd HOo.out HU3.out (fun b hb hb' => HNd.out b hb' hb))
        have HOo1 : Hid (World.ownsRow (w3.alloc (.cells #[.int .u8 ((c ^^^ 92).toNat : Int)] 5)) 0 5 1 u7 lo.length (lo.map Mem.u8)) := by
          show World.ownsRow _ _ _ _ _ _ _
          rw [Hlol.out]; exact own_upd HOo3.out ((Upd.refl (fun _ => False) w3).alloc _) (fun _ _ => id)
        have HSo1 := Lib.hid (lit_at w3 (c ^^^ 92) ((c ^^^ 92).toNat : Int) X92.out)
        clear X54 X92
        go_wp2_with ((at_builtin; (refine wpList_append_bytes (o := ⟨some 38, _, _, _, _, _⟩) _ ?_ (.tmp 34) (.tmp 37) ?_ 0 u7 lo [c ^^^ 92] ?_ HOo1.out (.slice (some ⟨w3.heap.size, 0, none⟩) 1 1) ?_ HSo1.out Hl3.out Hl4.out (Nat.zero_le _) ?_); rfl; rfl; rfl; rfl; intro v4 w4 HO4 HG4 HA4))
        go_roundw
        case rel =>
          have hU4 : Upd (fun b => own u7 b) w3 w4 := ((Upd.refl (fun b => own u7 b) w3).alloc _).trans ((Upd.grown HG4.out (fun b hb => hb) : Upd (fun b => own u7 b) _ w4).mono (fun b _ hb => .inl hb))
          have hA3 : ∀ b, own v3 b → own u6 b ∨ b = wr.heap.size + 1 := fun b hb => by have := of_at HA3.out b hb; simpa using this
          have hA4 : ∀ b, own v4 b → own u7 b ∨ b = w3.heap.size + 1 := fun b hb => by have := of_at HA4.out b hb; simpa using this
          have h37 : ∀ b, own v3 b → ¬ own u7 b := fun b hb hb' => by
            rcases hA3 b hb with h | h
            · exact HNd.out b h hb'
            · have := own_lt HOo.out b hb'; omega
          have h3 := own_upd HO3.out hU4 h37
          have h4 := HO4.out
          have e3 : (li ++ [c ^^^ 54]).length = j + 1 := by rw [List.length_append, Hlil.out]; rfl
          have e4 : (lo ++ [c ^^^ 92]).length = j + 1 := by rw [List.length_append, Hlol.out]; rfl
          rw [e3, ← HXi.out] at h3
          rw [e4, ← HXo.out] at h4
          refine ⟨j + 1, by omega, by go_num, h3, h4, fun b hb => ?_, fun b hb => ?_, fun b hb hb' => ?_, ?_⟩
          · rcases hA3 b hb with h | h
            · exact HNi.out b h
            · omega
          · rcases hA4 b hb with h | h
            · exact HNo.out b h
            · omega
          · rcases hA4 b hb' with h | h
            · exact h37 b hb h
            · have := own_lt HO3.out b hb; omega
          · exact (HU.out.trans (HU3.out.mono (fun b _ hb => .inr (HNi.out b hb)))).trans (hU4.mono (fun b _ hb => .inr (HNo.out b hb)))
        case measure => simp [intOf]; omega
      · have hkI : ¬ (j : Int) < (kn : Int) := by omega
        have e0 : c = 0 := by rw [HC.out]; exact block_past _ _ (by have := HKn.out; omega)
        have X54 := Lib.hid (show (54 : Int) = ((c ^^^ 54).toNat : Int) by rw [e0]; rfl)
        have X92 := Lib.hid (show (92 : Int) = ((c ^^^ 92).toNat : Int) by rw [e0]; rfl)
        have vi : bits .xor .u8 0 54 = 54 := v_xor 0 54
        have vo : bits .xor .u8 0 92 = 92 := v_xor 0 92
        have E0 := Lib.hid e0
        clear e0
        have HOi1 : Hid (World.ownsRow (wr.alloc (.cells #[.int .u8 54] 5)) 0 5 1 u6 li.length (li.map Mem.u8)) := by
          show World.ownsRow _ _ _ _ _ _ _
          rw [Hlil.out]; exact own_upd HOi.out ((Upd.refl (fun _ => False) wr).alloc _) (fun _ _ => id)
        have HSi1 := Lib.hid (lit_at wr (c ^^^ 54) 54 X54.out)
        go_upto_region 12 with ((at_builtin; (refine wpList_append_bytes (o := ⟨some 33, _, _, _, _, _⟩) _ ?_ (.tmp 29) (.tmp 32) ?_ 0 u6 li [c ^^^ 54] ?_ HOi1.out (.slice (some ⟨wr.heap.size, 0, none⟩) 1 1) ?_ HSi1.out Hl1.out Hl2.out (Nat.zero_le _) ?_); rfl; rfl; rfl; rfl; intro v3 w3 HO3 HG3 HA3))
        have HU3 : Hid (Upd (fun b => own u6 b) wr w3) := ((Upd.refl (fun b => own u6 b) wr).alloc _).trans ((Upd.grown HG3.out (fun b hb => hb) : Upd (fun b => own u6 b) _ w3).mono (fun b _ hb => .inl hb))
        have hs3 : wr.heap.size + 1 ≤ w3.heap.size := by have := HG3.out.size; simpa using this
        have HOo3 := Lib.hid (own_upd HOo.out HU3.out (fun b hb hb' => HNd.out b hb' hb))
        have HOo1 : Hid (World.ownsRow (w3.alloc (.cells #[.int .u8 92] 5)) 0 5 1 u7 lo.length (lo.map Mem.u8)) := by
          show World.ownsRow _ _ _ _ _ _ _
          rw [Hlol.out]; exact own_upd HOo3.out ((Upd.refl (fun _ => False) w3).alloc _) (fun _ _ => id)
        have HSo1 := Lib.hid (lit_at w3 (c ^^^ 92) 92 X92.out)
        clear X54 X92
        go_wp2_with ((at_builtin; (refine wpList_append_bytes (o := ⟨some 38, _, _, _, _, _⟩) _ ?_ (.tmp 34) (.tmp 37) ?_ 0 u7 lo [c ^^^ 92] ?_ HOo1.out (.slice (some ⟨w3.heap.size, 0, none⟩) 1 1) ?_ HSo1.out Hl3.out Hl4.out (Nat.zero_le _) ?_); rfl; rfl; rfl; rfl; intro v4 w4 HO4 HG4 HA4))
        go_roundw
        case rel =>
          have hU4 : Upd (fun b => own u7 b) w3 w4 := ((Upd.refl (fun b => own u7 b) w3).alloc _).trans ((Upd.grown HG4.out (fun b hb => hb) : Upd (fun b => own u7 b) _ w4).mono (fun b _ hb => .inl hb))
          have hA3 : ∀ b, own v3 b → own u6 b ∨ b = wr.heap.size + 1 := fun b hb => by have := of_at HA3.out b hb; simpa using this
          have hA4 : ∀ b, own v4 b → own u7 b ∨ b = w3.heap.size + 1 := fun b hb => by have := of_at HA4.out b hb; simpa using this
          have h37 : ∀ b, own v3 b → ¬ own u7 b := fun b hb hb' => by
            rcases hA3 b hb with h | h
            · exact HNd.out b h hb'
            · have := own_lt HOo.out b hb'; omega
          have h3 := own_upd HO3.out hU4 h37
          have h4 := HO4.out
          have e3 : (li ++ [c ^^^ 54]).length = j + 1 := by rw [List.length_append, Hlil.out]; rfl
          have e4 : (lo ++ [c ^^^ 92]).length = j + 1 := by rw [List.length_append, Hlol.out]; rfl
          rw [e3, ← HXi.out] at h3
          rw [e4, ← HXo.out] at h4
          refine ⟨j + 1, by omega, by go_num, h3, h4, fun b hb => ?_, fun b hb => ?_, fun b hb hb' => ?_, ?_⟩
          · rcases hA3 b hb with h | h
            · exact HNi.out b h
            · omega
          · rcases hA4 b hb with h | h
            · exact HNo.out b h
            · omega
          · rcases hA4 b hb' with h | h
            · exact h37 b hb h
            · have := own_lt HO3.out b hb; omega
          · exact (HU.out.trans (HU3.out.mono (fun b _ hb => .inr (HNi.out b hb)))).trans (hU4.mono (fun b _ hb => .inr (HNo.out b hb)))
        case measure => simp [intOf]; omega
    · obtain rfl : j = 64 := by omega
      rw [show ((64 : Nat) : Int) = 64 from rfl]
      clear hj hlt
      obtain ⟨ki, hki⟩ : ∃ x, x = xorAll (block key) 54 := ⟨_, rfl⟩
      obtain ⟨ko, hko⟩ : ∃ x, x = xorAll (block key) 92 := ⟨_, rfl⟩
      have hkil : ki.length = 64 := by rw [hki]; simp [xorAll, block_len _ HK64.out]
      have hkol : ko.length = 64 := by rw [hko]; simp [xorAll, block_len _ HK64.out]
      have e64 : (block key).take 64 = block key := List.take_of_length_le (by rw [block_len _ HK64.out]; omega)
      have HOi' : Hid (wr.ownsRow 0 5 1 u6 ki.length (ki.map Mem.u8)) := by
        show World.ownsRow _ _ _ _ _ _ _
        have h := HOi.out
        rw [e64, ← hki] at h
        rw [hkil]; exact h
      have HOo' : Hid (wr.ownsRow 0 5 1 u7 ko.length (ko.map Mem.u8)) := by
        show World.ownsRow _ _ _ _ _ _ _
        have h := HOo.out
        rw [e64, ← hko] at h
        rw [hkol]; exact h
      have HMM : Hid (macM key msg = sha (ko ++ sha (ki ++ msg))) := by show _ = _; rw [hki, hko]; rfl
      obtain ⟨ni, hni⟩ : ∃ x, x = sha (ki ++ msg) := ⟨_, rfl⟩
      have hnil : ni.length = 32 := by rw [hni]; rfl
      obtain ⟨Z, hZ⟩ : ∃ Z, Z = (ni.map Mem.u8).toArray := ⟨_, rfl⟩
      have HZ1 : Hid (Z.all (·.oneCell') = true) := by show _ = _; rw [hZ]; simpa using one_of ni
      have HZs : Hid ((Tryd.prog.info? 23).map (·.size) = some Z.size) := by show _ = _; rw [size32, hZ]; simp [hnil]
      have HZl : Hid (AD.size = Z.size) := by show _ = _; rw [hZ]; simp [hnil, AD]
      have hmn : mn = msg.length := by obtain ⟨_, _, h, _⟩ := Hm.out; injection h
      have HUw : Hid (Upd (fun _ => False) w wr) := HB.out.trans (HU.out.mono (fun _ _ h => h.elim))
      have HSm : Hid (Sl wr (.slice ma mn mc) msg) := Hm.out.upd HUw.out (fun _ _ => id)
      have Hl1 : Hid (ki.length + msg.length ≤ maxLen) := by show _ ≤ _; rw [hkil]; unfold maxLen; omega
      have Hl2 : Hid (ki.length + msg.length ≤ 140737488355328) := by show _ ≤ _; rw [hkil]; omega
      have Hkil := Lib.hid hkil
      have Hkol := Lib.hid hkol
      have Hnil := Lib.hid hnil
      have Hni := Lib.hid hni
      have HZ := Lib.hid hZ
      have Hmn := Lib.hid hmn
      have hwB : wB.heap.size ≤ wr.heap.size := HU.out.size
      have hz := zeroD
      clear hki hko hkil hkol e64 hni hnil hZ hmn HOi HOo
      go_wp2_with ((at_builtin; (refine wpList_append_bytes (o := ⟨some 41, _, _, _, _, _⟩) _ ?_ (.tmp 39) (.tmp 40) ?_ 0 u6 ki msg ?_ HOi'.out (.slice ma mn mc) ?_ HSm.out Hl1.out Hl2.out (Nat.zero_le _) ?_); rfl; rfl; rfl; rfl; intro v3 w3 HO3 HG3 HA3; obtain ⟨n3, hn3⟩ : ∃ n3, n3 = (ki ++ msg).length := ⟨_, rfl⟩; rw [← hn3] at HO3; obtain ⟨a3, c3, rfl⟩ := own_form HO3.out; have Hn3 := Lib.hid hn3; clear hn3))
      have HU3 : Hid (Upd (fun b => own u6 b) wr w3) := Upd.grown HG3.out (fun b hb => hb)
      have HU3B : Hid (Upd (fun _ => False) wB w3) := HU.out.trans (HU3.out.mono (fun b _ hb => .inr (HNi.out b hb)))
      have HU3w : Hid (Upd (fun _ => False) w w3) := HB.out.trans (HU3B.out.mono (fun _ _ h => h.elim))
      have HS3 : Hid (Sl w3 (.slice a3 n3 c3) (ki ++ msg)) := by
        have h := HO3.out
        rw [Hn3.out] at h
        show Sl _ _ _
        rw [Hn3.out]
        exact Sl.of_own h
      have HOo3 := Lib.hid (own_upd HOo'.out HU3.out (fun b hb hb' => HNd.out b hb' hb))
      refine (refsum_any a3 n3 c3 (ki ++ msg) w3 HS3.out (own_lt HO3.out) (by rw [Hn3.out, List.length_append, Hkil.out]; have := Hmn.out; omega)).mono ?_
      rintro e w4 ⟨he, hu4⟩
      rw [← Hni.out, ← HZ.out] at he
      subst he
      have HOo4 := Lib.hid (own_upd HOo3.out hu4 (fun _ _ => id))
      have HU4B : Hid (Upd (fun _ => False) wB w4) := HU3B.out.trans (hu4.mono (fun _ _ h => h.elim))
      have hs4 : wB.heap.size ≤ w4.heap.size := HU4B.out.size
      clear hu4 HO3 HG3 HA3 HS3 HOo3 HOi' HSm Hl1 Hl2 HU3
      go_upto_region 14 with ((with_reducible refine wpList_store_new (o := ⟨none, .store 23 (.tmp 10) (.tmp 42), _, _, _, _⟩) ?_ _ (.tmp 10) (.tmp 42) ?_ w4.heap.size Z ?_ ?_ 23 AD (heap_alloc_new _ _) HZs.out HZl.out HZ1.out ?_); rfl; rfl; rfl; rfl; intro w5 Hg5 Hu5)
      obtain ⟨NB, hNB⟩ : ∃ NB, NB = w4.heap.size := ⟨_, rfl⟩
      rw [← hNB] at Hg5 Hu5 ⊢
      have HU5B : Hid (Upd (fun _ => False) wB w5) := (HU4B.out.alloc _).trans (Hu5.out.mono (fun b _ e => .inr (by omega)))
      have HOo5 : Hid (w5.ownsRow 0 5 1 u7 ko.length (ko.map Mem.u8)) := own_upd (own_upd HOo4.out ((Upd.refl (fun _ => False) w4).alloc (.cells AD 23)) (fun _ _ => id)) Hu5.out (fun b hb e => by have := own_lt HOo4.out b hb; omega)
      have HS5 : Hid (Sl w5 (.slice (some ⟨NB, 0, none⟩) 32 32) ni) := by
        have h := Hg5.out
        rw [HZ.out] at h
        have h2 := Sl.row (cap := 32) (show Row w5 NB 23 (ni.map Mem.u8) from h) (by rw [Hnil.out]; exact Nat.le_refl _) (by unfold maxLen; omega)
        rwa [Hnil.out] at h2
      have Hl3 : Hid (ko.length + ni.length ≤ maxLen) := by show _ ≤ _; rw [Hkol.out, Hnil.out]; unfold maxLen; omega
      have Hl4 : Hid (ko.length + ni.length ≤ 140737488355328) := by show _ ≤ _; rw [Hkol.out, Hnil.out]; omega
      have hnb : wB.heap.size ≤ NB := by omega
      clear hNB hz
      go_wp2_with ((at_builtin; (refine wpList_append_bytes (o := ⟨some 45, _, _, _, _, _⟩) _ ?_ (.tmp 43) (.tmp 44) ?_ 0 u7 ko ni ?_ HOo5.out (.slice (some ⟨NB, 0, none⟩) 32 32) ?_ HS5.out Hl3.out Hl4.out (Nat.zero_le _) ?_); rfl; rfl; rfl; rfl; intro v6 w6 HO6 HG6 HA6; obtain ⟨n6, hn6⟩ : ∃ n6, n6 = (ko ++ ni).length := ⟨_, rfl⟩; rw [← hn6] at HO6; obtain ⟨a6, c6, rfl⟩ := own_form HO6.out; have Hn6 := Lib.hid hn6; clear hn6))
      have HU6B : Hid (Upd (fun _ => False) wB w6) := HU5B.out.trans ((Upd.grown HG6.out (fun b hb => hb) : Upd (fun b => own u7 b) w5 w6).mono (fun b _ hb => .inr (HNo.out b hb)))
      have HS6 : Hid (Sl w6 (.slice a6 n6 c6) (ko ++ ni)) := by
        have h := HO6.out
        rw [Hn6.out] at h
        show Sl _ _ _
        rw [Hn6.out]
        exact Sl.of_own h
      refine (refsum_any a6 n6 c6 (ko ++ ni) w6 HS6.out (own_lt HO6.out) (by rw [Hn6.out, List.length_append, Hkol.out, Hnil.out]; omega)).mono ?_
      rintro e w7 ⟨he, hu7⟩
      rw [Hni.out, ← HMM.out, ← HY.out] at he
      subst he
      have HU7B : Hid (Upd (fun _ => False) wB w7) := HU6B.out.trans (hu7.mono (fun _ _ h => h.elim))
      have HG7 : Hid (w7.heap[w.heap.size]? = some (.cells AD 23 (0, 0))) := (HU7B.out.block _ (lt_of_block HR0.out) id).trans HR0.out
      have HU7 : Hid (Upd (fun _ => False) w w7) := HB.out.trans (HU7B.out.mono (fun _ _ h => h.elim))
      clear hu7 HO6 HG6 HA6
      go_wp2_with ((with_reducible refine wpList_store_new (o := ⟨none, .store 23 (.tmp 4) (.tmp 46), _, _, _, _⟩) ?_ _ (.tmp 4) (.tmp 46) ?_ w.heap.size Y ?_ ?_ 23 AD HG7.out HYs.out HYl.out HY1.out ?_); rfl; rfl; rfl; rfl; intro w8 Hg8 Hu8)
      refine bodyPost_ret (results_cell_row rfl _ _ w.heap.size 23 Y (0, 0) _ rfl Hg8.out Tryd.underlying23 rfl HYs.out) rfl ?_
      exact ⟨by rw [← HY.out], HU7.out.trans (Hu8.out.mono (fun k hk e => .inr (by omega)))⟩

set_option maxHeartbeats 16000000 in
set_option maxRecDepth 100000 in
theorem refmac_long (ka : Option Addr) (kn kc : Nat) (ma : Option Addr) (mn mc : Nat) (key msg : List UInt8) (w : World) (hkey : Sl w (.slice ka kn kc) key) (hm : Sl w (.slice ma mn mc) msg) (hkl : 64 < kn)
    (hown : ∀ k, own (.slice ma mn mc) k → k < w.heap.size) (hownk : ∀ k, own (.slice ka kn kc) k → k < w.heap.size) (hlen : mn ≤ 140737488351232) (hklen : kn ≤ 140737488351232) (sk : List UInt8) (hsk : sk = sha key) (hs3 : sk.length = 32) :
    Calls Tryd.prog 20 #[.slice ka kn kc, .slice ma mn mc] w fun e w' => e = .returned (.agg ((macM sk msg).map u8).toArray) ∧ Upd (fun _ => False) w w' := by
  obtain ⟨Y, hY⟩ : ∃ Y, Y = ((macM sk msg).map u8).toArray := ⟨_, rfl⟩
  obtain ⟨D, hD⟩ : ∃ D, D = (sk.map u8).toArray := ⟨_, rfl⟩
  have HD1 : Hid (D.all (·.oneCell') = true) := by show _ = _; rw [hD]; simpa using one_of sk
  have HDs : Hid ((Tryd.prog.info? 23).map (·.size) = some D.size) := by show _ = _; rw [size32, hD]; simp [hs3]
  have HDl : Hid (AD.size = D.size) := by show _ = _; rw [hD]; simp [AD, hs3]
  have HY := Lib.hid hY
  have Hm := Lib.hid hm
  have Hown := Lib.hid hown
  have HD := Lib.hid hD
  have Hsk := Lib.hid hsk
  have hz := zeroD
  have hklI : ¬ (kn : Int) ≤ 64 := by omega
  have hklJ : (64 : Int) < (kn : Int) := by omega
  have HA0 : Hid (Upd (fun _ => False) w (w.alloc (.cells AD 23))) := (Upd.refl _ w).alloc _
  have HY1 : Hid (Y.all (·.oneCell') = true) := by show _ = _; rw [hY]; simpa using one_of (macM sk msg)
  have HYs : Hid ((Tryd.prog.info? 23).map (·.size) = some Y.size) := by show _ = _; rw [size32, hY]; rfl
  have HYl : Hid (AD.size = Y.size) := by show _ = _; rw [hY]; rfl
  have HK64 : Hid (sk.length ≤ 64) := by show _ ≤ _; omega
  have HKn : Hid (32 = sk.length) := hs3.symm
  have HRf := Lib.hid (refsum_any ka kn kc key _ (hkey.upd HA0.out (fun _ _ => id)) (fun k hk => by have := hownk k hk; simp; omega) (by omega))
  rw [← hsk, ← hD] at HRf
  clear hY hkey hm hown hsk hs3 hD hownk
  go_enter Tryd.func20, Tryd.ntmps20
  go_wp2_with fail
  refine HRf.out.mono ?_
  rintro e v1 ⟨rfl, hv1⟩
  have HV1 : Hid (Upd (fun _ => False) w v1) := HA0.out.trans (hv1.mono (fun _ _ h => h.elim))
  have HR00 : Hid (v1.heap[w.heap.size]? = some (.cells AD 23 (0, 0))) := (hv1.block _ (by simp) id).trans (heap_alloc_new _ _)
  clear hv1 HRf
  go_upto_region 4 with ((with_reducible refine wpList_store_new (o := ⟨none, .store 23 (.tmp 5) (.tmp 15), _, _, _, _⟩) ?_ _ (.tmp 5) (.tmp 15) ?_ v1.heap.size D ?_ ?_ 23 AD (heap_alloc_new _ _) HDs.out HDl.out HD1.out ?_); rfl; rfl; rfl; rfl; intro wB HvB HuB)
  have hlt1 : w.heap.size < v1.heap.size := lt_of_block HR00.out
  obtain ⟨KB, hKB⟩ : ∃ KB, KB = v1.heap.size := ⟨_, rfl⟩
  rw [← hKB] at HvB HuB ⊢
  have HB : Hid (Upd (fun _ => False) w wB) := (HV1.out.alloc _).trans (HuB.out.mono (fun k _ e => .inr (by omega)))
  have HR0 : Hid (wB.heap[w.heap.size]? = some (.cells AD 23 (0, 0))) := by
    show _ = _
    rw [HuB.out.block _ (by simp; omega) (by omega), Below.heap_alloc _ _ _ (by omega)]; exact HR00.out
  have HKey : Hid (Sl wB (.slice (some ⟨KB, 0, none⟩) 32 32) sk) := by
    have h := HvB.out
    rw [HD.out] at h
    have h2 := Sl.row (cap := 32) (show Row wB KB 23 (sk.map u8) from h) (by have := HKn.out; omega) (by unfold maxLen; omega)
    rw [← HKn.out] at h2
    exact h2
  have HL0 : Hid (LM sk wB (.slice none 0 0) (.slice none 0 0) (.int .i64 0) wB) := ⟨0, by omega, rfl, by rw [List.take_zero]; exact own_nil _, by rw [List.take_zero]; exact own_nil _, by simp [own, Value.ownBlock], by simp [own, Value.ownBlock], by simp [own, Value.ownBlock], Upd.refl _ _⟩
  clear hKB HvB HuB HV1 HR00 HDs HDl HD1
  go_wp2
  go_loopw [6, 7, 8] (fun vi vo i wr => LM sk wB vi vo i wr) (fun _ _ i _ => (64 - intOf i).toNat)
  case atStart => exact HL0.out
  case round =>
    clear HL0 hz
    obtain ⟨j, hj, rfl, hoi, hoo, hni, hno, hnd, hu⟩ := hrel
    have HOi := Lib.hid hoi
    have HOo := Lib.hid hoo
    have HNi := Lib.hid hni
    have HNo := Lib.hid hno
    have HNd := Lib.hid hnd
    have HU := Lib.hid hu
    clear hoi hoo hni hno hnd hu
    by_cases hlt : j < 64
    · have hltI : (j : Int) < 64 := by omega
      obtain ⟨c, hc⟩ : ∃ c, c = (block sk).getD j 0 := ⟨_, rfl⟩
      have HC := Lib.hid hc
      have HXi : Hid (xorAll ((block sk).take (j + 1)) 54 = xorAll ((block sk).take j) 54 ++ [c ^^^ 54]) := by show _ = _; rw [hc]; exact xor_take _ _ _ (by rw [block_len _ HK64.out]; exact hlt)
      have HXo : Hid (xorAll ((block sk).take (j + 1)) 92 = xorAll ((block sk).take j) 92 ++ [c ^^^ 92]) := by show _ = _; rw [hc]; exact xor_take _ _ _ (by rw [block_len _ HK64.out]; exact hlt)
      obtain ⟨li, hli⟩ : ∃ l, l = xorAll ((block sk).take j) 54 := ⟨_, rfl⟩
      obtain ⟨lo, hlo⟩ : ∃ l, l = xorAll ((block sk).take j) 92 := ⟨_, rfl⟩
      have hlil : li.length = j := by rw [hli]; simp [xorAll, block_len _ HK64.out]; omega
      have hlol : lo.length = j := by rw [hlo]; simp [xorAll, block_len _ HK64.out]; omega
      rw [← hli] at HOi HXi
      rw [← hlo] at HOo HXo
      have Hl1 : Hid (li.length + [c ^^^ 54].length ≤ maxLen) := by show _ ≤ _; rw [hlil]; unfold maxLen; simp; omega
      have Hl2 : Hid (li.length + [c ^^^ 54].length ≤ 140737488355328) := by show _ ≤ _; rw [hlil]; simp; omega
      have Hl3 : Hid (lo.length + [c ^^^ 92].length ≤ maxLen) := by show _ ≤ _; rw [hlol]; unfold maxLen; simp; omega
      have Hl4 : Hid (lo.length + [c ^^^ 92].length ≤ 140737488355328) := by show _ ≤ _; rw [hlol]; simp; omega
      have Hlil := Lib.hid hlil
      have Hlol := Lib.hid hlol
      have hwB : wB.heap.size ≤ wr.heap.size := HU.out.size
      clear hc hli hlo hlil hlol
      by_cases hk : j < 32
      · have hkI : (j : Int) < (32 : Int) := by omega
        have hkk : j < sk.length := by have := HKn.out; omega
        have c0 := (Sl.cells (HKey.out.upd HU.out (fun _ _ => id))).2 j hkk
        rw [add_none, Nat.zero_add, ← block_at sk j hkk, ← HC.out] at c0
        unfold Mem.u8 at c0
        clear hkk
        have vi : bits .xor .u8 (c.toNat : Int) 54 = ((c ^^^ 54).toNat : Int) := v_xor c 54
        have vo : bits .xor .u8 (c.toNat : Int) 92 = ((c ^^^ 92).toNat : Int) := v_xor c 92
        have X54 := Lib.hid (show ((c ^^^ 54).toNat : Int) = ((c ^^^ 54).toNat : Int) from rfl)
        have X92 := Lib.hid (show ((c ^^^ 92).toNat : Int) = ((c ^^^ 92).toNat : Int) from rfl)
        have HOi1 : Hid (World.ownsRow (wr.alloc (.cells #[.int .u8 ((c ^^^ 54).toNat : Int)] 5)) 0 5 1 u6 li.length (li.map Mem.u8)) := by
          show World.ownsRow _ _ _ _ _ _ _
          rw [Hlil.out]; exact own_upd HOi.out ((Upd.refl (fun _ => False) wr).alloc _) (fun _ _ => id)
        have HSi1 := Lib.hid (lit_at wr (c ^^^ 54) ((c ^^^ 54).toNat : Int) X54.out)
        go_upto_region 12 with ((at_builtin; (refine wpList_append_bytes (o := ⟨some 33, _, _, _, _, _⟩) _ ?_ (.tmp 29) (.tmp 32) ?_ 0 u6 li [c ^^^ 54] ?_ HOi1.out (.slice (some ⟨wr.heap.size, 0, none⟩) 1 1) ?_ HSi1.out Hl1.out Hl2.out (Nat.zero_le _) ?_); rfl; rfl; rfl; rfl; intro v3 w3 HO3 HG3 HA3))
        have HU3 : Hid (Upd (fun b => own u6 b) wr w3) := ((Upd.refl (fun b => own u6 b) wr).alloc _).trans ((Upd.grown HG3.out (fun b hb => hb) : Upd (fun b => own u6 b) _ w3).mono (fun b _ hb => .inl hb))
        have hs3 : wr.heap.size + 1 ≤ w3.heap.size := by have := HG3.out.size; simpa using this
        have HOo3 := Lib.hid (own_upd HOo.out HU3.out (fun b hb hb' => HNd.out b hb' hb))
        have HOo1 : Hid (World.ownsRow (w3.alloc (.cells #[.int .u8 ((c ^^^ 92).toNat : Int)] 5)) 0 5 1 u7 lo.length (lo.map Mem.u8)) := by
          show World.ownsRow _ _ _ _ _ _ _
          rw [Hlol.out]; exact own_upd HOo3.out ((Upd.refl (fun _ => False) w3).alloc _) (fun _ _ => id)
        have HSo1 := Lib.hid (lit_at w3 (c ^^^ 92) ((c ^^^ 92).toNat : Int) X92.out)
        clear X54 X92
        go_wp2_with ((at_builtin; (refine wpList_append_bytes (o := ⟨some 38, _, _, _, _, _⟩) _ ?_ (.tmp 34) (.tmp 37) ?_ 0 u7 lo [c ^^^ 92] ?_ HOo1.out (.slice (some ⟨w3.heap.size, 0, none⟩) 1 1) ?_ HSo1.out Hl3.out Hl4.out (Nat.zero_le _) ?_); rfl; rfl; rfl; rfl; intro v4 w4 HO4 HG4 HA4))
        go_roundw
        case rel =>
          have hU4 : Upd (fun b => own u7 b) w3 w4 := ((Upd.refl (fun b => own u7 b) w3).alloc _).trans ((Upd.grown HG4.out (fun b hb => hb) : Upd (fun b => own u7 b) _ w4).mono (fun b _ hb => .inl hb))
          have hA3 : ∀ b, own v3 b → own u6 b ∨ b = wr.heap.size + 1 := fun b hb => by have := of_at HA3.out b hb; simpa using this
          have hA4 : ∀ b, own v4 b → own u7 b ∨ b = w3.heap.size + 1 := fun b hb => by have := of_at HA4.out b hb; simpa using this
          have h37 : ∀ b, own v3 b → ¬ own u7 b := fun b hb hb' => by
            rcases hA3 b hb with h | h
            · exact HNd.out b h hb'
            · have := own_lt HOo.out b hb'; omega
          have h3 := own_upd HO3.out hU4 h37
          have h4 := HO4.out
          have e3 : (li ++ [c ^^^ 54]).length = j + 1 := by rw [List.length_append, Hlil.out]; rfl
          have e4 : (lo ++ [c ^^^ 92]).length = j + 1 := by rw [List.length_append, Hlol.out]; rfl
          rw [e3, ← HXi.out] at h3
          rw [e4, ← HXo.out] at h4
          refine ⟨j + 1, by omega, by go_num, h3, h4, fun b hb => ?_, fun b hb => ?_, fun b hb hb' => ?_, ?_⟩
          · rcases hA3 b hb with h | h
            · exact HNi.out b h
            · omega
          · rcases hA4 b hb with h | h
            · exact HNo.out b h
            · omega
          · rcases hA4 b hb' with h | h
            · exact h37 b hb h
            · have := own_lt HO3.out b hb; omega
          · exact (HU.out.trans (HU3.out.mono (fun b _ hb => .inr (HNi.out b hb)))).trans (hU4.mono (fun b _ hb => .inr (HNo.out b hb)))
        case measure => simp [intOf]; omega
      · have hkI : ¬ (j : Int) < (32 : Int) := by omega
        have e0 : c = 0 := by rw [HC.out]; exact block_past _ _ (by have := HKn.out; omega)
        have X54 := Lib.hid (show (54 : Int) = ((c ^^^ 54).toNat : Int) by rw [e0]; rfl)
        have X92 := Lib.hid (show (92 : Int) = ((c ^^^ 92).toNat : Int) by rw [e0]; rfl)
        have vi : bits .xor .u8 0 54 = 54 := v_xor 0 54
        have vo : bits .xor .u8 0 92 = 92 := v_xor 0 92
        have E0 := Lib.hid e0
        clear e0
        have HOi1 : Hid (World.ownsRow (wr.alloc (.cells #[.int .u8 54] 5)) 0 5 1 u6 li.length (li.map Mem.u8)) := by
          show World.ownsRow _ _ _ _ _ _ _
          rw [Hlil.out]; exact own_upd HOi.out ((Upd.refl (fun _ => False) wr).alloc _) (fun _ _ => id)
        have HSi1 := Lib.hid (lit_at wr (c ^^^ 54) 54 X54.out)
        go_upto_region 12 with ((at_builtin; (refine wpList_append_bytes (o := ⟨some 33, _, _, _, _, _⟩) _ ?_ (.tmp 29) (.tmp 32) ?_ 0 u6 li [c ^^^ 54] ?_ HOi1.out (.slice (some ⟨wr.heap.size, 0, none⟩) 1 1) ?_ HSi1.out Hl1.out Hl2.out (Nat.zero_le _) ?_); rfl; rfl; rfl; rfl; intro v3 w3 HO3 HG3 HA3))
        have HU3 : Hid (Upd (fun b => own u6 b) wr w3) := ((Upd.refl (fun b => own u6 b) wr).alloc _).trans ((Upd.grown HG3.out (fun b hb => hb) : Upd (fun b => own u6 b) _ w3).mono (fun b _ hb => .inl hb))
        have hs3 : wr.heap.size + 1 ≤ w3.heap.size := by have := HG3.out.size; simpa using this
        have HOo3 := Lib.hid (own_upd HOo.out HU3.out (fun b hb hb' => HNd.out b hb' hb))
        have HOo1 : Hid (World.ownsRow (w3.alloc (.cells #[.int .u8 92] 5)) 0 5 1 u7 lo.length (lo.map Mem.u8)) := by
          show World.ownsRow _ _ _ _ _ _ _
          rw [Hlol.out]; exact own_upd HOo3.out ((Upd.refl (fun _ => False) w3).alloc _) (fun _ _ => id)
        have HSo1 := Lib.hid (lit_at w3 (c ^^^ 92) 92 X92.out)
        clear X54 X92
        go_wp2_with ((at_builtin; (refine wpList_append_bytes (o := ⟨some 38, _, _, _, _, _⟩) _ ?_ (.tmp 34) (.tmp 37) ?_ 0 u7 lo [c ^^^ 92] ?_ HOo1.out (.slice (some ⟨w3.heap.size, 0, none⟩) 1 1) ?_ HSo1.out Hl3.out Hl4.out (Nat.zero_le _) ?_); rfl; rfl; rfl; rfl; intro v4 w4 HO4 HG4 HA4))
        go_roundw
        case rel =>
          have hU4 : Upd (fun b => own u7 b) w3 w4 := ((Upd.refl (fun b => own u7 b) w3).alloc _).trans ((Upd.grown HG4.out (fun b hb => hb) : Upd (fun b => own u7 b) _ w4).mono (fun b _ hb => .inl hb))
          have hA3 : ∀ b, own v3 b → own u6 b ∨ b = wr.heap.size + 1 := fun b hb => by have := of_at HA3.out b hb; simpa using this
          have hA4 : ∀ b, own v4 b → own u7 b ∨ b = w3.heap.size + 1 := fun b hb => by have := of_at HA4.out b hb; simpa using this
          have h37 : ∀ b, own v3 b → ¬ own u7 b := fun b hb hb' => by
            rcases hA3 b hb with h | h
            · exact HNd.out b h hb'
            · have := own_lt HOo.out b hb'; omega
          have h3 := own_upd HO3.out hU4 h37
          have h4 := HO4.out
          have e3 : (li ++ [c ^^^ 54]).length = j + 1 := by rw [List.length_append, Hlil.out]; rfl
          have e4 : (lo ++ [c ^^^ 92]).length = j + 1 := by rw [List.length_append, Hlol.out]; rfl
          rw [e3, ← HXi.out] at h3
          rw [e4, ← HXo.out] at h4
          refine ⟨j + 1, by omega, by go_num, h3, h4, fun b hb => ?_, fun b hb => ?_, fun b hb hb' => ?_, ?_⟩
          · rcases hA3 b hb with h | h
            · exact HNi.out b h
            · omega
          · rcases hA4 b hb with h | h
            · exact HNo.out b h
            · omega
          · rcases hA4 b hb' with h | h
            · exact h37 b hb h
            · have := own_lt HO3.out b hb; omega
          · exact (HU.out.trans (HU3.out.mono (fun b _ hb => .inr (HNi.out b hb)))).trans (hU4.mono (fun b _ hb => .inr (HNo.out b hb)))
        case measure => simp [intOf]; omega
    · obtain rfl : j = 64 := by omega
      rw [show ((64 : Nat) : Int) = 64 from rfl]
      clear hj hlt
      obtain ⟨ki, hki⟩ : ∃ x, x = xorAll (block sk) 54 := ⟨_, rfl⟩
      obtain ⟨ko, hko⟩ : ∃ x, x = xorAll (block sk) 92 := ⟨_, rfl⟩
      have hkil : ki.length = 64 := by rw [hki]; simp [xorAll, block_len _ HK64.out]
      have hkol : ko.length = 64 := by rw [hko]; simp [xorAll, block_len _ HK64.out]
      have e64 : (block sk).take 64 = block sk := List.take_of_length_le (by rw [block_len _ HK64.out]; omega)
      have HOi' : Hid (wr.ownsRow 0 5 1 u6 ki.length (ki.map Mem.u8)) := by
        show World.ownsRow _ _ _ _ _ _ _
        have h := HOi.out
        rw [e64, ← hki] at h
        rw [hkil]; exact h
      have HOo' : Hid (wr.ownsRow 0 5 1 u7 ko.length (ko.map Mem.u8)) := by
        show World.ownsRow _ _ _ _ _ _ _
        have h := HOo.out
        rw [e64, ← hko] at h
        rw [hkol]; exact h
      have HMM : Hid (macM sk msg = sha (ko ++ sha (ki ++ msg))) := by show _ = _; rw [hki, hko]; rfl
      obtain ⟨ni, hni⟩ : ∃ x, x = sha (ki ++ msg) := ⟨_, rfl⟩
      have hnil : ni.length = 32 := by rw [hni]; rfl
      obtain ⟨Z, hZ⟩ : ∃ Z, Z = (ni.map Mem.u8).toArray := ⟨_, rfl⟩
      have HZ1 : Hid (Z.all (·.oneCell') = true) := by show _ = _; rw [hZ]; simpa using one_of ni
      have HZs : Hid ((Tryd.prog.info? 23).map (·.size) = some Z.size) := by show _ = _; rw [size32, hZ]; simp [hnil]
      have HZl : Hid (AD.size = Z.size) := by show _ = _; rw [hZ]; simp [hnil, AD]
      have hmn : mn = msg.length := by obtain ⟨_, _, h, _⟩ := Hm.out; injection h
      have HUw : Hid (Upd (fun _ => False) w wr) := HB.out.trans (HU.out.mono (fun _ _ h => h.elim))
      have HSm : Hid (Sl wr (.slice ma mn mc) msg) := Hm.out.upd HUw.out (fun _ _ => id)
      have Hl1 : Hid (ki.length + msg.length ≤ maxLen) := by show _ ≤ _; rw [hkil]; unfold maxLen; omega
      have Hl2 : Hid (ki.length + msg.length ≤ 140737488355328) := by show _ ≤ _; rw [hkil]; omega
      have Hkil := Lib.hid hkil
      have Hkol := Lib.hid hkol
      have Hnil := Lib.hid hnil
      have Hni := Lib.hid hni
      have HZ := Lib.hid hZ
      have Hmn := Lib.hid hmn
      have hwB : wB.heap.size ≤ wr.heap.size := HU.out.size
      have hz := zeroD
      clear hki hko hkil hkol e64 hni hnil hZ hmn HOi HOo
      go_wp2_with ((at_builtin; (refine wpList_append_bytes (o := ⟨some 41, _, _, _, _, _⟩) _ ?_ (.tmp 39) (.tmp 40) ?_ 0 u6 ki msg ?_ HOi'.out (.slice ma mn mc) ?_ HSm.out Hl1.out Hl2.out (Nat.zero_le _) ?_); rfl; rfl; rfl; rfl; intro v3 w3 HO3 HG3 HA3; obtain ⟨n3, hn3⟩ : ∃ n3, n3 = (ki ++ msg).length := ⟨_, rfl⟩; rw [← hn3] at HO3; obtain ⟨a3, c3, rfl⟩ := own_form HO3.out; have Hn3 := Lib.hid hn3; clear hn3))
      have HU3 : Hid (Upd (fun b => own u6 b) wr w3) := Upd.grown HG3.out (fun b hb => hb)
      have HU3B : Hid (Upd (fun _ => False) wB w3) := HU.out.trans (HU3.out.mono (fun b _ hb => .inr (HNi.out b hb)))
      have HU3w : Hid (Upd (fun _ => False) w w3) := HB.out.trans (HU3B.out.mono (fun _ _ h => h.elim))
      have HS3 : Hid (Sl w3 (.slice a3 n3 c3) (ki ++ msg)) := by
        have h := HO3.out
        rw [Hn3.out] at h
        show Sl _ _ _
        rw [Hn3.out]
        exact Sl.of_own h
      have HOo3 := Lib.hid (own_upd HOo'.out HU3.out (fun b hb hb' => HNd.out b hb' hb))
      refine (refsum_any a3 n3 c3 (ki ++ msg) w3 HS3.out (own_lt HO3.out) (by rw [Hn3.out, List.length_append, Hkil.out]; have := Hmn.out; omega)).mono ?_
      rintro e w4 ⟨he, hu4⟩
      rw [← Hni.out, ← HZ.out] at he
      subst he
      have HOo4 := Lib.hid (own_upd HOo3.out hu4 (fun _ _ => id))
      have HU4B : Hid (Upd (fun _ => False) wB w4) := HU3B.out.trans (hu4.mono (fun _ _ h => h.elim))
      have hs4 : wB.heap.size ≤ w4.heap.size := HU4B.out.size
      clear hu4 HO3 HG3 HA3 HS3 HOo3 HOi' HSm Hl1 Hl2 HU3
      go_upto_region 14 with ((with_reducible refine wpList_store_new (o := ⟨none, .store 23 (.tmp 10) (.tmp 42), _, _, _, _⟩) ?_ _ (.tmp 10) (.tmp 42) ?_ w4.heap.size Z ?_ ?_ 23 AD (heap_alloc_new _ _) HZs.out HZl.out HZ1.out ?_); rfl; rfl; rfl; rfl; intro w5 Hg5 Hu5)
      obtain ⟨NB, hNB⟩ : ∃ NB, NB = w4.heap.size := ⟨_, rfl⟩
      rw [← hNB] at Hg5 Hu5 ⊢
      have HU5B : Hid (Upd (fun _ => False) wB w5) := (HU4B.out.alloc _).trans (Hu5.out.mono (fun b _ e => .inr (by omega)))
      have HOo5 : Hid (w5.ownsRow 0 5 1 u7 ko.length (ko.map Mem.u8)) := own_upd (own_upd HOo4.out ((Upd.refl (fun _ => False) w4).alloc (.cells AD 23)) (fun _ _ => id)) Hu5.out (fun b hb e => by have := own_lt HOo4.out b hb; omega)
      have HS5 : Hid (Sl w5 (.slice (some ⟨NB, 0, none⟩) 32 32) ni) := by
        have h := Hg5.out
        rw [HZ.out] at h
        have h2 := Sl.row (cap := 32) (show Row w5 NB 23 (ni.map Mem.u8) from h) (by rw [Hnil.out]; exact Nat.le_refl _) (by unfold maxLen; omega)
        rwa [Hnil.out] at h2
      have Hl3 : Hid (ko.length + ni.length ≤ maxLen) := by show _ ≤ _; rw [Hkol.out, Hnil.out]; unfold maxLen; omega
      have Hl4 : Hid (ko.length + ni.length ≤ 140737488355328) := by show _ ≤ _; rw [Hkol.out, Hnil.out]; omega
      have hnb : wB.heap.size ≤ NB := by omega
      clear hNB hz
      go_wp2_with ((at_builtin; (refine wpList_append_bytes (o := ⟨some 45, _, _, _, _, _⟩) _ ?_ (.tmp 43) (.tmp 44) ?_ 0 u7 ko ni ?_ HOo5.out (.slice (some ⟨NB, 0, none⟩) 32 32) ?_ HS5.out Hl3.out Hl4.out (Nat.zero_le _) ?_); rfl; rfl; rfl; rfl; intro v6 w6 HO6 HG6 HA6; obtain ⟨n6, hn6⟩ : ∃ n6, n6 = (ko ++ ni).length := ⟨_, rfl⟩; rw [← hn6] at HO6; obtain ⟨a6, c6, rfl⟩ := own_form HO6.out; have Hn6 := Lib.hid hn6; clear hn6))
      have HU6B : Hid (Upd (fun _ => False) wB w6) := HU5B.out.trans ((Upd.grown HG6.out (fun b hb => hb) : Upd (fun b => own u7 b) w5 w6).mono (fun b _ hb => .inr (HNo.out b hb)))
      have HS6 : Hid (Sl w6 (.slice a6 n6 c6) (ko ++ ni)) := by
        have h := HO6.out
        rw [Hn6.out] at h
        show Sl _ _ _
        rw [Hn6.out]
        exact Sl.of_own h
      refine (refsum_any a6 n6 c6 (ko ++ ni) w6 HS6.out (own_lt HO6.out) (by rw [Hn6.out, List.length_append, Hkol.out, Hnil.out]; omega)).mono ?_
      rintro e w7 ⟨he, hu7⟩
      rw [Hni.out, ← HMM.out, ← HY.out] at he
      subst he
      have HU7B : Hid (Upd (fun _ => False) wB w7) := HU6B.out.trans (hu7.mono (fun _ _ h => h.elim))
      have HG7 : Hid (w7.heap[w.heap.size]? = some (.cells AD 23 (0, 0))) := (HU7B.out.block _ (lt_of_block HR0.out) id).trans HR0.out
      have HU7 : Hid (Upd (fun _ => False) w w7) := HB.out.trans (HU7B.out.mono (fun _ _ h => h.elim))
      clear hu7 HO6 HG6 HA6
      go_wp2_with ((with_reducible refine wpList_store_new (o := ⟨none, .store 23 (.tmp 4) (.tmp 46), _, _, _, _⟩) ?_ _ (.tmp 4) (.tmp 46) ?_ w.heap.size Y ?_ ?_ 23 AD HG7.out HYs.out HYl.out HY1.out ?_); rfl; rfl; rfl; rfl; intro w8 Hg8 Hu8)
      refine bodyPost_ret (results_cell_row rfl _ _ w.heap.size 23 Y (0, 0) _ rfl Hg8.out Tryd.underlying23 rfl HYs.out) rfl ?_
      exact ⟨by rw [← HY.out], HU7.out.trans (Hu8.out.mono (fun k hk e => .inr (by omega)))⟩
theorem refmac_any (ka : Option Addr) (kn kc : Nat) (ma : Option Addr) (mn mc : Nat) (key msg : List UInt8) (w : World) (hkey : Sl w (.slice ka kn kc) key) (hm : Sl w (.slice ma mn mc) msg)
    (hown : ∀ k, own (.slice ma mn mc) k → k < w.heap.size) (hownk : ∀ k, own (.slice ka kn kc) k → k < w.heap.size) (hlen : mn ≤ 140737488351232) (hklen : kn ≤ 140737488351232) :
    Calls Tryd.prog 20 #[.slice ka kn kc, .slice ma mn mc] w fun e w' => e = .returned (.agg ((macA key msg).map u8).toArray) ∧ Upd (fun _ => False) w w' := by
  have hkn : kn = key.length := by obtain ⟨_, _, h, _⟩ := hkey; injection h
  unfold macA
  by_cases h : key.length ≤ 64
  · rw [if_pos h]
    exact refmac_short ka kn kc ma mn mc key msg w hkey hm (by omega) hown hlen
  · rw [if_neg h]
    exact refmac_long ka kn kc ma mn mc key msg w hkey hm (by omega) hown hownk hlen hklen _ rfl rfl
end Go.Proofs.YtiglaeipbcmlnaaDoor.RefMac
