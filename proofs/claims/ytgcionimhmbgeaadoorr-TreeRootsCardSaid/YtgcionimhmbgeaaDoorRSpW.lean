/-
  tree.Spots.
-/
import Derived.Test.YtgcionimhmbgeaaDoorRBitsW
import Derived.Test.YtgcionimhmbgeaaDoorRRowW
import Derived.Test.YtgcionimhmbgeaaDoorRIntsW
import Derived.Lib.MinMax
namespace Go.Proofs.YtgcionimhmbgeaaDoorR.SpW
open Go.RowKit Mem RowW BitsW SpL IntsW
set_option linter.unusedVariables false
set_option linter.unusedSimpArgs false

/-- the cells of spots -/
def spv (ls : List (Nat × Nat)) : List Value := ls.flatMap fun p => [.int .i64 (p.1 : Int), .int .i64 (p.2 : Int)]
theorem spv_snoc (ls : List (Nat × Nat)) (L I : Nat) : spv (ls ++ [(L, I)]) = spv ls ++ [.int .i64 (L : Int), .int .i64 (I : Int)] := by unfold spv; simp
theorem spv_at (ls : List (Nat × Nat)) (j : Nat) (h : j < ls.length) : (spv ls)[j * 2]? = some (.int .i64 ((ls.getD j (0, 0)).1 : Int)) ∧ (spv ls)[j * 2 + 1]? = some (.int .i64 ((ls.getD j (0, 0)).2 : Int)) := by
  induction ls generalizing j with
  | nil => simp at h
  | cons p ls ih =>
    have e : spv (p :: ls) = .int .i64 (p.1 : Int) :: .int .i64 (p.2 : Int) :: spv ls := by unfold spv; simp
    rw [e]
    cases j with
    | zero => simp
    | succ j =>
      have h2 := ih j (by simpa using h)
      rw [show (j + 1) * 2 = j * 2 + 1 + 1 by omega]
      simpa using h2
def ZS : Array Value := #[.int .i64 0, .int .i64 0]
theorem infoS : (Tryd.prog.info? 33).map (fun i => (i.zero, i.size, i.bytes)) = some (some (.agg ZS), 2, 16) := by kernel_rfl
/-- append of one spot to a row of spots of the call's own -/
theorem wpList_append_spot (w : World) {ops : Array Oper} {rest : List Oper} {o : Oper} {a : Act} {Q : Exit → Act → World → Prop} (hgd : o.guard = none) (sl x : Operand)
    (ho : o.op = .call { callee := .builtin .append, args := #[sl, x], argTypes := #[27, 27] })
    (v : Value) (n : Nat) (xs : List Value) (hs : a.eval sl = v) (hown : w.ownsRow 0 33 2 v n xs) (g c : Nat) (p q : Int) (hx : a.eval x = .slice (some ⟨g, 0, none⟩) 1 c) (hg : w.heap[g]? = some (.cells #[.int .i64 p, .int .i64 q] 33 (0, 0)))
    (hn : n + 1 ≤ 2199023255552)
    (h : ∀ ao cap w', Hid (w'.ownsRow 0 33 2 (.slice ao (n + 1) cap) (n + 1) (xs ++ [.int .i64 p, .int .i64 q])) → Hid (w.grownBy w' v.ownBlock) → Hid ((Value.slice ao (n + 1) cap).ownBlock = v.ownBlock ∨ (Value.slice ao (n + 1) cap).ownBlock = some w.heap.size) → wpList Tryd.prog ops Q rest (a.put o.dst (.slice ao (n + 1) cap)) w') :
    wpList Tryd.prog ops Q (o :: rest) a w := by
  obtain ⟨i0, hi, hz0, hz1, hz2⟩ := info_parts infoS
  refine wpList_append_own_at w hgd sl x 27 ho 0 33 i0 (.agg ZS) 2 16 Tryd.underlying27 hi hz0 hz1 hz2 rfl (by decide) v _ _ hs hown ⟨g, 0, none⟩ 1 c [.int .i64 p, .int .i64 q] hx rfl (fun j v' hv => ?_) (fun u hu => ?_) (by unfold maxLen; omega) (by omega) (Nat.zero_le _) (fun v' w' a1 a2 _ a4 => ?_)
  · rw [RowW.add_none, Nat.zero_add, cell_of_row _ _ _ _ _ _ hg]
    simpa using hv
  · simp at hu; rcases hu with rfl | rfl <;> rfl
  · obtain ⟨ao, cap, rfl⟩ := slice_form a1
    exact h ao cap w' a1 a2 a4
/-- what Spots tells -/
def spotsZ (a b : Int) : List (Nat × Nat) := if a < 0 ∨ 1099511627776 < b then [] else spots a.toNat b.toNat
def SpotsAt (a b : Int) (w : World) (e : Ending) (w' : World) : Prop :=
  ∃ v, e = .returned v ∧ w'.ownsRow 0 33 2 v (spotsZ a b).length (spv (spotsZ a b)) ∧ (∀ k, own v k → w.heap.size ≤ k) ∧ Upd (fun _ => False) w w'
def LSp (a b : Nat) (w0 : World) (f v : Value) (wr : World) : Prop :=
  ∃ (c : Nat) (ls : List (Nat × Nat)), f = .int .i64 (c : Int) ∧ ls ++ spots c b = spots a b ∧ c ≤ max a b ∧ a + ls.length ≤ c ∧ wr.ownsRow 0 33 2 v ls.length (spv ls) ∧ (∀ k, own v k → w0.heap.size ≤ k) ∧ Upd (fun _ => False) w0 wr
theorem nil_at (w : World) (a b : Int) (h : spotsZ a b = []) : SpotsAt a b w (.returned (.slice none 0 0)) w :=
  ⟨_, rfl, by rw [h]; exact World.ownsRow_nil w _ _ _, fun k hk => by simp [own, Value.ownBlock] at hk, Upd.refl _ _⟩

set_option maxHeartbeats 4000000 in
set_option maxRecDepth 100000 in
theorem spots_any (a b : Int) (ha : -9223372036854775808 ≤ a ∧ a ≤ 9223372036854775807) (hb : -9223372036854775808 ≤ b ∧ b ≤ 9223372036854775807) (w : World) (hz : Zw w) (hg : 1 < w.heap.size) :
    Calls Tryd.prog 13 #[.int .i64 a, .int .i64 b] w (SpotsAt a b w) := by
  have Hz := Lib.hid hz
  have Hg := Lib.hid hg
  obtain ⟨ha1, ha2⟩ := ha
  obtain ⟨hb1, hb2⟩ := hb
  clear hz hg
  by_cases h0 : a < 0
  · have HN := Lib.hid (nil_at w a b (by unfold spotsZ; rw [if_pos (.inl h0)]))
    go_enter Tryd.func13, Tryd.ntmps13
    go_wp2
    go_ret
    exact HN.out
  · have hd0 : decide (a < 0) = false := by simpa using h0
    by_cases h1 : 1099511627776 < b
    · have HN := Lib.hid (nil_at w a b (by unfold spotsZ; rw [if_pos (.inr h1)]))
      go_enter Tryd.func13, Tryd.ntmps13
      go_wp2
      go_ret
      exact HN.out
    · have hd1 : decide (1099511627776 < b) = false := by simpa using h1
      have HE : Hid (spotsZ a b = spots a.toNat b.toNat) := by show _ = _; unfold spotsZ; rw [if_neg (by omega)]
      obtain ⟨m, rfl⟩ : ∃ m : Nat, a = m := ⟨a.toNat, by omega⟩
      go_enter Tryd.func13, Tryd.ntmps13
      go_wp2
      by_cases hneg : b < 0
      · have HN := Lib.hid (nil_at w m b (by rw [HE.out]; exact spots_nil (by omega)))
        have hnl : ¬ ((m : Int) < b) := by omega
        go_loopw [0, 5] (fun f v wr => f = .int .i64 (m : Int) ∧ v = .slice none 0 0 ∧ wr = w) (fun _ _ _ => 0)
        case atStart => exact ⟨rfl, rfl, rfl⟩
        case round =>
          obtain ⟨rfl, rfl, rfl⟩ := hrel
          go_wp2
          go_ret
          exact HN.out
      · obtain ⟨n, rfl⟩ : ∃ n : Nat, b = n := ⟨b.toNat, by omega⟩
        go_loopw [0, 5] (fun f v wr => LSp m n w f v wr) (fun f _ _ => (n - (intOf f).toNat))
        case atStart => exact ⟨m, [], rfl, rfl, by omega, by simp, World.ownsRow_nil w _ _ _, fun k hk => by simp [own, Value.ownBlock] at hk, Upd.refl _ _⟩
        case round =>
          obtain ⟨c, ls, rfl, hls, hcm, hlc, hown, hov, hu⟩ := hrel
          obtain ⟨wq, rfl⟩ : ∃ x : World, x = wr := ⟨_, rfl⟩
          obtain ⟨v, rfl⟩ : ∃ x : Value, x = u5 := ⟨_, rfl⟩
          have Hls := Lib.hid hls
          have Hown := Lib.hid hown
          have Hov := Lib.hid hov
          have HU := Lib.hid hu
          have Hlc := Lib.hid hlc
          clear hls hown hov hu
          by_cases hlt : c < n
          · have hltI : (c : Int) < (n : Int) := by omega
            have HL := Lib.hid (lev_spec c n hlt (by omega))
            have HSc := Lib.hid (spots_cons hlt)
            obtain ⟨x, hx⟩ : ∃ x, x = Go.Lib.ctz 64 c := ⟨_, rfl⟩
            obtain ⟨y, hy⟩ : ∃ y, y = flog (n - c) := ⟨_, rfl⟩
            obtain ⟨L, hL⟩ : ∃ L, L = lev c n := ⟨_, rfl⟩
            have HT := Lib.hid (tz_any c (by omega) wq (Hz.out.upd HU.out id))
            have HF := Lib.hid (flog_any (n - c) (by omega) (by omega) wq)
            rw [Int.natCast_sub (Nat.le_of_lt hlt), ← hy] at HF
            rw [← hx] at HT
            have hmin : min (x : Int) (y : Int) = (L : Int) := by rw [hL, hx, hy]; unfold lev; omega
            rw [← hL] at HL HSc
            have hL40 : L ≤ 40 := HL.out.2.2.1
            clear hx hy hL
            obtain ⟨P, hPe⟩ : ∃ P, P = 2 ^ L := ⟨_, rfl⟩
            obtain ⟨q, hqe⟩ : ∃ q, q = c / P := ⟨_, rfl⟩
            have hP : (2 : Int) ^ L = (P : Int) := by rw [hPe, Int.natCast_pow]; rfl
            have hq : (c : Int) / (P : Int) = (q : Int) := by rw [hqe]; exact (Int.natCast_ediv c P).symm
            have HSc' : Hid (spots c n = (L, q) :: spots (c + P) n) := by show _ = _; rw [HSc.out, hqe, hPe]
            have hPn : c + P ≤ n := by rw [hPe]; exact HL.out.2.1
            have hP1 : 1 ≤ P := by rw [hPe]; exact Nat.two_pow_pos _
            have Hlen : ls.length + 1 ≤ 2199023255552 := by omega
            have HLC : Hid ((wq.alloc (.cells #[.int .i64 (L : Int), .int .i64 (q : Int)] 33)).ownsRow 0 33 2 v ls.length (spv ls)) := own_upd Hown.out ((Upd.refl (fun _ => False) wq).alloc _) (fun _ _ => id)
            clear hPe hqe HSc
            go_wp2_with fail
            refine HT.out.mono ?_
            rintro e w' ⟨rfl, rfl⟩
            go_wp2_with fail
            refine HF.out.mono ?_
            rintro e w' ⟨rfl, rfl⟩
            go_wp2_with (at_builtin; (refine wpList_append_spot _ (o := ⟨some 31, _, _, _, _, _⟩) ?_ (.tmp 24) (.tmp 30) ?_ v ls.length (spv ls) ?_ HLC.out wq.heap.size 1 (L : Int) (q : Int) ?_ (heap_alloc_new _ _) Hlen ?_); rfl; rfl; rfl; rfl; intro a5 c5 wD HO5 HG5 HA5)
            go_roundw
            case rel =>
              refine ⟨c + P, ls ++ [(L, q)], by go_num, ?_, by omega, ?_, ?_, fun k hk => ?_, ?_⟩
              · rw [List.append_assoc, List.singleton_append, ← HSc'.out]; exact Hls.out
              · have := Hlc.out; rw [List.length_append, List.length_singleton]; omega
              · rw [List.length_append, List.length_singleton, spv_snoc]; exact HO5.out
              · rcases HA5.out with h | h
                · exact Hov.out k (by unfold own at hk ⊢; rw [← h]; exact hk)
                · unfold own at hk
                  rw [h] at hk
                  injection hk with hk
                  rw [← hk]
                  exact Nat.le_trans HU.out.size ((Upd.refl (fun _ => False) wq).alloc _).size
              · exact (HU.out.trans (((Upd.refl (fun _ => False) wq).alloc _).mono (fun _ _ e => e.elim))).trans ((Upd.grown HG5.out (fun j hj => hj) : Upd (own v) _ wD).mono (fun j _ e => .inr (Hov.out j e)))
            case measure => simp [intOf]; omega
          · have hnlt : ¬ (c : Int) < (n : Int) := by omega
            have HR : Hid (SpotsAt m n w (.returned v) wq) := by
              have h := Hls.out
              rw [spots_nil hlt, List.append_nil] at h
              refine ⟨v, rfl, ?_, Hov.out, HU.out⟩
              have e := HE.out
              rw [Int.toNat_natCast, Int.toNat_natCast, ← h] at e
              rw [e]
              exact Hown.out
            go_wp2
            go_ret
            exact HR.out
end Go.Proofs.YtgcionimhmbgeaaDoorR.SpW
