/-
  (*digest.Hasher).Write of whatever slice of bytes.
-/
import Derived.Test.YtgcionimhmbgeaaDoorRWriteW2
import Derived.Test.YtgcionimhmbgeaaDoorRWriteW3
namespace Go.Proofs.YtgcionimhmbgeaaDoorR.WriteN
open Go.RowKit Sha TurnW Mem RowW SpreadW MixW HashM CopyW WriteW
set_option linter.unusedVariables false

set_option maxHeartbeats 2000000 in
set_option maxRecDepth 100000 in
theorem nil_any (b : Nat) (l : List UInt8) (w : World) (hh : Hs w b l) (hlen : l.length < 1152921504606846976) :
    Calls Tryd.prog 89 #[.pointer (some ⟨b, 0, none⟩), .slice none 0 0] w fun e w' => e = .returned (.tuple #[]) ∧ Hs w' b l ∧ Upd (fun k => k = b) w w' := by
  obtain ⟨q, t, blk, hl, hq, ht, hbt, hQ⟩ := hh
  obtain ⟨L, hL⟩ : ∃ L, L = l.length := ⟨_, rfl⟩
  have hLm : L % 64 = t.length := by rw [hL, hl, List.length_append]; omega
  rw [← hL] at hQ hlen
  have c72 : w.cell? ⟨b, 72, none⟩ = some (.int .u64 (L : Int)) := by rw [hQ.2.cell, hcells_72 _ _ _ hQ.1]
  have f72 := hQ.2.frozen 72
  have e1 : IntKind.u64.wrap (L : Int) = (L : Int) := by rw [IntKind.wrap_u64]; omega
  have e3 : (L : Int) % 64 = (t.length : Int) := by omega
  have e4 : (L : Int).tmod 64 = (t.length : Int) := by rw [Int.tmod_eq_emod_of_nonneg (by omega)]; exact e3
  have e5 : IntKind.i64.wrap (t.length : Int) = t.length := IntWalk.i64_in _ (by omega)
  have e6 : IntKind.u64.wrap (t.length : Int) = t.length := by rw [IntKind.wrap_u64]; omega
  have HR : Hid (Row (w.setCell ⟨b, 72, none⟩ (.int .u64 (L : Int))) b 135 (hcells (stq q) blk L)) := by
    show Row _ _ _ _
    have h := hQ.2.set 72 (.int .u64 (L : Int))
    rwa [hcells_set _ _ _ _ hQ.1] at h
  have HU : Hid (Upd (fun k => k = b) w (w.setCell ⟨b, 72, none⟩ (.int .u64 (L : Int)))) := Upd.put (S := fun k => k = b) (Upd.refl _ _) b 72 (.inl rfl) _
  have HH := Lib.hid (show ∀ w', Row w' b 135 (hcells (stq q) blk L) → Hs w' b l from fun w' hr => ⟨q, t, blk, hl, hq, ht, hbt, hQ.1, by rw [← hL]; exact hr⟩)
  have H73 : Hid ((hcells (stq q) blk L).length = 73) := hcells_len _ _ _ hQ.1
  have Hlen := Lib.hid hlen
  have Hl := Lib.hid hl
  have Hbt := Lib.hid hbt
  have HL := Lib.hid hL
  clear hl hq hbt hQ hlen hLm hL
  have ht64 : (t.length : Int) < 64 := by omega
  have ht64' : (t.length : Int) ≤ 64 := by omega
  have hsp : ∀ o, splice (hcells (stq q) blk L) o [] = hcells (stq q) blk L := fun o => by simp [splice]
  have HSP := Lib.hid hsp
  clear hsp
  by_cases h0 : 0 < t.length
  · have ht0' : (0 : Int) < (t.length : Int) := by omega
    go_enter Tryd.func89, Tryd.ntmps89
    go_wp2_with ((with_reducible refine wpList_copy_new (o := ⟨some 30, _, _, _, _, _⟩) ?_ (.tmp 28) (.tmp 29) 25 25 ?_ 5 Tryd.underlying25 info8s (some ⟨b, 8 + t.length, none⟩) none (64 - t.length) (64 - t.length) 0 0 ?_ ?_ b (8 + t.length) _ _ HR.out [] ?_ ?_ ?_ (fun _ h => absurd h (by simp)) ?_); rfl; rfl; rfl; rfl; (simp); (exact fun hp => absurd hp (by simp)); (rw [H73.out, List.length_nil]; omega); intro w1 HR1 HU1)
    refine bodyPost_ret (results_none rfl _ _ _) rfl ?_
    exact ⟨rfl, HH.out _ (by have := HR1.out; rwa [HSP.out] at this), HU.out.trans (HU1.out.mono (fun _ _ h => .inl h))⟩
  · have ht00 : t.length = 0 := by omega
    simp only [ht00] at *
    go_enter Tryd.func89, Tryd.ntmps89
    go_wp2
    refine wp_loop_rounds 1 ?_
    rw [rounds_succ]
    go_wp2_with ((with_reducible refine wpList_copy_new (o := ⟨some 62, _, _, _, _, _⟩) ?_ (.tmp 60) (.tmp 61) 25 25 ?_ 5 Tryd.underlying25 info8s (some ⟨b, 8, none⟩) none 64 64 0 0 ?_ ?_ b 8 _ _ HR.out [] ?_ ?_ ?_ (fun _ h => absurd h (by simp)) ?_); rfl; rfl; rfl; rfl; (simp); (exact fun hp => absurd hp (by simp)); (rw [H73.out, List.length_nil]; omega); intro w1 HR1 HU1)
    go_end0
    exact ⟨rfl, HH.out _ (by have := HR1.out; rwa [HSP.out] at this), HU.out.trans (HU1.out.mono (fun _ _ h => .inl h))⟩

theorem write_any (b : Nat) (v : Value) (l p : List UInt8) (w : World) (hh : Hs w b l) (hp : Sl w v p) (hv : ¬ own v b) (hb : b ≠ 2) (hk : Kw w) (hlen : l.length + p.length < 1152921504606846976) :
    Calls Tryd.prog 89 #[.pointer (some ⟨b, 0, none⟩), v] w fun e w' => e = .returned (.tuple #[]) ∧ Hs w' b (l ++ p) ∧ Upd (fun k => k = b) w w' := by
  have hp' := hp
  obtain ⟨ao, cap, rfl, h1, h2, h3, h4⟩ := hp'
  cases ao with
  | none =>
    have hc : cap = 0 := h3 rfl
    obtain rfl : p = [] := List.eq_nil_of_length_eq_zero (by omega)
    subst hc
    rw [List.append_nil]
    exact nil_any b l w hh (by simpa using hlen)
  | some a =>
    obtain ⟨c, o, sp⟩ := a
    obtain rfl : sp = none := (h4 _ rfl).1
    have hcb : c ≠ b := fun e => hv (by rw [e]; simp [own, Value.ownBlock])
    obtain ⟨q, t, blk, rfl, hq, ht, hbt, hQ⟩ := hh
    rw [List.length_append] at hlen
    rcases Nat.eq_zero_or_pos t.length with h0 | h0
    · obtain rfl : t = [] := List.eq_nil_of_length_eq_zero h0
      simp only [List.append_nil] at hQ ⊢
      exact write_fresh b c o cap q blk p w hq hQ hp hcb hb hk (by simpa using hlen)
    · rcases Nat.lt_or_ge (t.length + p.length) 64 with hs | hs
      · exact WriteW2.write_short b c o cap q t blk p w hq ht hbt hQ hp hcb hb hk hlen h0 hs
      · exact WriteW3.write_fill b c o cap q t blk p w hq ht hbt hQ hp hcb hb hk hlen h0 hs
end Go.Proofs.YtgcionimhmbgeaaDoorR.WriteN
