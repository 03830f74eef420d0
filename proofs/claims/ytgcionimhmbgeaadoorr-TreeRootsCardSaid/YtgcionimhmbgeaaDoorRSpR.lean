/-
  docketref6.Spots; docketbook.Same of spots.
-/
import Derived.Test.YtgcionimhmbgeaaDoorRSpW
import Derived.Deep.QuietTactic
import Derived.BigQuiet
namespace Go.Proofs.YtgcionimhmbgeaaDoorR.SpR
open Go.RowKit Mem RowW BitsW SpL IntsW SpW
set_option linter.unusedVariables false
set_option linter.unusedSimpArgs false

/-- the level that is looked for: so far each is one that a spot may have -/
def LLv (a b : Nat) (l : Value) : Prop := ∃ L : Nat, l = .int .i64 (L : Int) ∧ 2 ^ L ∣ a ∧ a + 2 ^ L ≤ b ∧ L ≤ 40
theorem lev_go {a b L : Nat} (h1 : 2 ^ L ∣ a) (h2 : a + 2 ^ L ≤ b) (h3 : L ≤ 40) (h : L < 40 → 2 ^ (L + 1) ∣ a → b < a + 2 ^ (L + 1)) (hb : b ≤ 2 ^ 40) : L = lev a b := by
  have hlt : a < b := by have := Nat.two_pow_pos L; omega
  exact Lev.uniq ⟨h1, h2, h3, h⟩ (lev_spec a b hlt hb)

set_option maxHeartbeats 4000000 in
set_option maxRecDepth 100000 in
theorem rspots_any (a b : Int) (ha : -9223372036854775808 ≤ a ∧ a ≤ 9223372036854775807) (hb : -9223372036854775808 ≤ b ∧ b ≤ 9223372036854775807) (w : World) :
    Calls Tryd.prog 24 #[.int .i64 a, .int .i64 b] w (SpotsAt a b w) := by
  obtain ⟨ha1, ha2⟩ := ha
  obtain ⟨hb1, hb2⟩ := hb
  by_cases h0 : a < 0
  · have HN := Lib.hid (nil_at w a b (by unfold spotsZ; rw [if_pos (.inl h0)]))
    go_enter Tryd.func24, Tryd.ntmps24
    go_wp2
    go_ret
    exact HN.out
  · have hd0 : decide (a < 0) = false := by simpa using h0
    by_cases hab : b < a
    · have HN := Lib.hid (nil_at w a b (by unfold spotsZ; by_cases h1 : 1099511627776 < b; (rw [if_pos (.inr h1)]); (rw [if_neg (by omega)]; exact spots_nil (by omega))))
      go_enter Tryd.func24, Tryd.ntmps24
      go_wp2
      go_ret
      exact HN.out
    · have hdab : decide (b < a) = false := by simpa using hab
      by_cases h1 : 1099511627776 < b
      · have HN := Lib.hid (nil_at w a b (by unfold spotsZ; rw [if_pos (.inr h1)]))
        go_enter Tryd.func24, Tryd.ntmps24
        go_wp2
        go_ret
        exact HN.out
      · have hd1 : decide (1099511627776 < b) = false := by simpa using h1
        have HE : Hid (spotsZ a b = spots a.toNat b.toNat) := by show _ = _; unfold spotsZ; rw [if_neg (by omega)]
        obtain ⟨m, rfl⟩ : ∃ m : Nat, a = m := ⟨a.toNat, by omega⟩
        obtain ⟨n, rfl⟩ : ∃ n : Nat, b = n := ⟨b.toNat, by omega⟩
        have Hmn : Hid (m ≤ n) := by show _ ≤ _; omega
        go_enter Tryd.func24, Tryd.ntmps24
        go_wp2
        go_loopw [0, 5] (fun f v wr => LSp m n w f v wr) (fun f _ _ => (n - (intOf f).toNat))
        case atStart => exact ⟨m, [], rfl, rfl, by omega, by simp, World.ownsRow_nil w _ _ _, fun k hk => by simp [own, Value.ownBlock] at hk, Upd.refl _ _⟩
        case round =>
          obtain ⟨c, ls, rfl, hls, hcm, hlc, hown, hov, hu⟩ := hrel
          obtain ⟨wq, rfl⟩ : ∃ x : World, x = wr := ⟨_, rfl⟩
          obtain ⟨v, rfl⟩ : ∃ x : Value, x = u5 := ⟨_, rfl⟩
          have Hls := Lib.hid hls
          have Hown := Lib.hid hown
          have Hov := Lib.hid hov
          have HU := Lib.hid hu
          have Hlc := Lib.hid hlc
          clear hls hown hov hu
          by_cases hlt : c < n
          · have hltI : (c : Int) < (n : Int) := by omega
            have HSc := Lib.hid (spots_cons hlt)
            go_wp2
            go_loop [6] (fun l => LLv c n l) (fun l => (40 - (intOf l).toNat))
            case atStart => exact ⟨0, rfl, by simp, by simp; omega, by omega⟩
            case round =>
              obtain ⟨L, rfl, hl1, hl2, hl3⟩ := hrel
              obtain ⟨P, hPe⟩ : ∃ P, P = 2 ^ L := ⟨_, rfl⟩
              have hP : (2 : Int) ^ L = (P : Int) := by rw [hPe, Int.natCast_pow]; rfl
              have hP2 : 2 ^ (L + 1) = 2 * P := by rw [hPe, Nat.pow_succ, Nat.mul_comm]
              have hP1 : 1 ≤ P := by rw [hPe]; exact Nat.two_pow_pos _
              rw [← hPe] at hl2
              have Hl1 := Lib.hid hl1
              clear hl1
              have HPe := Lib.hid hPe
              have HP2 := Lib.hid hP2
              clear hPe hP2
              obtain ⟨q, hqe⟩ : ∃ q, q = c / P := ⟨_, rfl⟩
              have hq : (c : Int) / (P : Int) = (q : Int) := by rw [hqe]; exact (Int.natCast_ediv c P).symm
              have Hq := Lib.hid hqe
              have Hlen : ls.length + 1 ≤ 2199023255552 := by omega
              have HLC : Hid ((wq.alloc (.cells #[.int .i64 (L : Int), .int .i64 (q : Int)] 33)).ownsRow 0 33 2 v ls.length (spv ls)) := own_upd Hown.out ((Upd.refl (fun _ => False) wq).alloc _) (fun _ _ => id)
              clear hqe
              have hme : ((c % (2 * P) : Nat) : Int) = (c : Int) % (2 * (P : Int)) := by rw [Int.natCast_emod, Int.natCast_mul]; rfl
              by_cases h40 : L < 40
              · by_cases hm : c % (2 * P) = 0
                · have hmB : ((c : Int) % (2 * (P : Int)) == 0) = true := by rw [← hme, hm]; rfl
                  clear hme
                  by_cases hle : c + 2 * P ≤ n
                  · have hleB : decide ((c : Int) + 2 * (P : Int) ≤ (n : Int)) = true := by simp; omega
                    have HD : Hid (2 ^ (L + 1) ∣ c ∧ c + 2 ^ (L + 1) ≤ n) := by
                      show _ ∧ _
                      rw [HP2.out]
                      exact ⟨Nat.dvd_of_mod_eq_zero hm, hle⟩
                    clear hm HLC
                    go_wp2
                    go_round
                    case rel => exact ⟨L + 1, by go_num, HD.out.1, HD.out.2, by omega⟩
                    case measure => simp [intOf]; omega
                  · have hleB : decide ((c : Int) + 2 * (P : Int) ≤ (n : Int)) = false := by simp; omega
                    have HLe : Hid (L = lev c n) := lev_go Hl1.out (by rw [← HPe.out]; exact hl2) hl3 (fun h1 h2 => by rw [HP2.out] at h2 ⊢; have := Nat.mod_eq_zero_of_dvd h2; omega) (by omega)
                    go_wp2_with (at_builtin; (refine wpList_append_spot _ (o := ⟨some 47, _, _, _, _, _⟩) ?_ (.tmp 40) (.tmp 46) ?_ v ls.length (spv ls) ?_ HLC.out wq.heap.size 1 (L : Int) (q : Int) ?_ (heap_alloc_new _ _) Hlen ?_); rfl; rfl; rfl; rfl; intro a5 c5 wD HO5 HG5 HA5)
                    go_roundw
                    case rel =>
                      refine ⟨c + P, ls ++ [(L, q)], by go_num, ?_, by omega, ?_, ?_, fun k hk => ?_, ?_⟩
                      · have h := HSc.out
                        rw [← HLe.out, ← HPe.out, ← Hq.out] at h
                        rw [List.append_assoc, List.singleton_append, ← h]; exact Hls.out
                      · have := Hlc.out; rw [List.length_append, List.length_singleton]; omega
                      · rw [List.length_append, List.length_singleton, spv_snoc]; exact HO5.out
                      · rcases HA5.out with h | h
                        · exact Hov.out k (by unfold own at hk ⊢; rw [← h]; exact hk)
                        · unfold own at hk
                          rw [h] at hk
                          injection hk with hk
                          rw [← hk]
                          exact Nat.le_trans HU.out.size ((Upd.refl (fun _ => False) wq).alloc _).size
                      · exact (HU.out.trans (((Upd.refl (fun _ => False) wq).alloc _).mono (fun _ _ e => e.elim))).trans ((Upd.grown HG5.out (fun j hj => hj) : Upd (own v) _ wD).mono (fun j _ e => .inr (Hov.out j e)))
                    case measure => simp [intOf]; omega
                · have hmB : ((c : Int) % (2 * (P : Int)) == 0) = false := by rw [← hme]; exact beq_eq_false_iff_ne.mpr (Int.natCast_ne_zero.2 hm)
                  clear hme
                  have HLe : Hid (L = lev c n) := lev_go Hl1.out (by rw [← HPe.out]; exact hl2) hl3 (fun h1 h2 => by rw [HP2.out] at h2 ⊢; have := Nat.mod_eq_zero_of_dvd h2; omega) (by omega)
                  go_wp2_with (at_builtin; (refine wpList_append_spot _ (o := ⟨some 47, _, _, _, _, _⟩) ?_ (.tmp 40) (.tmp 46) ?_ v ls.length (spv ls) ?_ HLC.out wq.heap.size 1 (L : Int) (q : Int) ?_ (heap_alloc_new _ _) Hlen ?_); rfl; rfl; rfl; rfl; intro a5 c5 wD HO5 HG5 HA5)
                  go_roundw
                  case rel =>
                    refine ⟨c + P, ls ++ [(L, q)], by go_num, ?_, by omega, ?_, ?_, fun k hk => ?_, ?_⟩
                    · have h := HSc.out
                      rw [← HLe.out, ← HPe.out, ← Hq.out] at h
                      rw [List.append_assoc, List.singleton_append, ← h]; exact Hls.out
                    · have := Hlc.out; rw [List.length_append, List.length_singleton]; omega
                    · rw [List.length_append, List.length_singleton, spv_snoc]; exact HO5.out
                    · rcases HA5.out with h | h
                      · exact Hov.out k (by unfold own at hk ⊢; rw [← h]; exact hk)
                      · unfold own at hk
                        rw [h] at hk
                        injection hk with hk
                        rw [← hk]
                        exact Nat.le_trans HU.out.size ((Upd.refl (fun _ => False) wq).alloc _).size
                    · exact (HU.out.trans (((Upd.refl (fun _ => False) wq).alloc _).mono (fun _ _ e => e.elim))).trans ((Upd.grown HG5.out (fun j hj => hj) : Upd (own v) _ wD).mono (fun j _ e => .inr (Hov.out j e)))
                  case measure => simp [intOf]; omega
              · have h40B : decide ((L : Int) < 40) = false := by simp; omega
                clear hme
                have HLe : Hid (L = lev c n) := lev_go Hl1.out (by rw [← HPe.out]; exact hl2) hl3 (fun h1 h2 => by rw [HP2.out] at h2 ⊢; have := Nat.mod_eq_zero_of_dvd h2; omega) (by omega)
                go_wp2_with (at_builtin; (refine wpList_append_spot _ (o := ⟨some 47, _, _, _, _, _⟩) ?_ (.tmp 40) (.tmp 46) ?_ v ls.length (spv ls) ?_ HLC.out wq.heap.size 1 (L : Int) (q : Int) ?_ (heap_alloc_new _ _) Hlen ?_); rfl; rfl; rfl; rfl; intro a5 c5 wD HO5 HG5 HA5)
                go_roundw
                case rel =>
                  refine ⟨c + P, ls ++ [(L, q)], by go_num, ?_, by omega, ?_, ?_, fun k hk => ?_, ?_⟩
                  · have h := HSc.out
                    rw [← HLe.out, ← HPe.out, ← Hq.out] at h
                    rw [List.append_assoc, List.singleton_append, ← h]; exact Hls.out
                  · have := Hlc.out; rw [List.length_append, List.length_singleton]; omega
                  · rw [List.length_append, List.length_singleton, spv_snoc]; exact HO5.out
                  · rcases HA5.out with h | h
                    · exact Hov.out k (by unfold own at hk ⊢; rw [← h]; exact hk)
                    · unfold own at hk
                      rw [h] at hk
                      injection hk with hk
                      rw [← hk]
                      exact Nat.le_trans HU.out.size ((Upd.refl (fun _ => False) wq).alloc _).size
                  · exact (HU.out.trans (((Upd.refl (fun _ => False) wq).alloc _).mono (fun _ _ e => e.elim))).trans ((Upd.grown HG5.out (fun j hj => hj) : Upd (own v) _ wD).mono (fun j _ e => .inr (Hov.out j e)))
                case measure => simp [intOf]; omega
          · have hnlt : ¬ (c : Int) < (n : Int) := by omega
            have HR : Hid (SpotsAt m n w (.returned v) wq) := by
              have h := Hls.out
              rw [spots_nil hlt, List.append_nil] at h
              refine ⟨v, rfl, ?_, Hov.out, HU.out⟩
              have e := HE.out
              rw [Int.toNat_natCast, Int.toNat_natCast, ← h] at e
              rw [e]
              exact Hown.out
            go_wp2
            go_ret
            exact HR.out
end Go.Proofs.YtgcionimhmbgeaaDoorR.SpR
