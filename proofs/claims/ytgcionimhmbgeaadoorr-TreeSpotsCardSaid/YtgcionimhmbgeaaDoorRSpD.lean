/-
  docketlaw6.TreeSpots, walked.
-/
import Derived.Test.YtgcionimhmbgeaaDoorRSpS
namespace Go.Proofs.YtgcionimhmbgeaaDoorR.SpD
open Go.RowKit Mem RowW BitsW SpL IntsW SpW SpR SpS
set_option linter.unusedVariables false
set_option linter.unusedSimpArgs false

theorem drop_at (ls : List (Nat × Nat)) (i c n : Nat) (h : ls.drop i = spots c n) (hi : i < ls.length) :
    c < n ∧ ls.getD i (0, 0) = (lev c n, c / 2 ^ lev c n) ∧ ls.drop (i + 1) = spots (c + 2 ^ lev c n) n := by
  by_cases hlt : c < n
  · rw [spots_cons hlt, List.drop_eq_getElem_cons hi] at h
    injection h with h1 h2
    exact ⟨hlt, by rw [List.getD_eq_getElem?_getD, List.getElem?_eq_getElem hi]; exact h1, h2⟩
  · rw [spots_nil hlt] at h
    have := congrArg List.length h
    simp at this
    omega
/-- behind i spots -/
def LTs (m n : Nat) (ls : List (Nat × Nat)) (at_ i : Value) : Prop :=
  ∃ (j c : Nat), j ≤ ls.length ∧ i = .int .i64 (j : Int) ∧ at_ = .int .i64 (c : Int) ∧ ls.drop j = spots c n ∧ c ≤ max m n ∧ (j = 0 → c = m)

set_option maxHeartbeats 4000000 in
set_option maxRecDepth 100000 in
theorem walk (a b : Int) (ha : -9223372036854775808 ≤ a ∧ a ≤ 9223372036854775807) (hb : -9223372036854775808 ≤ b ∧ b ≤ 9223372036854775807) (w : World) (hz : Zw w) (hg : 1 < w.heap.size) :
    Calls Tryd.prog 5 #[.int .i64 a, .int .i64 b] w fun e w' => e = .returned (.bool true) ∧ Upd (fun _ => False) w w' := by
  have HS1 := Lib.hid (spots_any a b ha hb w hz hg)
  have HS2 : Hid (∀ w, Calls Tryd.prog 24 #[.int .i64 a, .int .i64 b] w (SpotsAt a b w)) := fun w => rspots_any a b ha hb w
  obtain ⟨ha1, ha2⟩ := ha
  obtain ⟨hb1, hb2⟩ := hb
  clear hz hg
  have hsl : (spotsZ a b).length ≤ 1099511627776 := by
    unfold spotsZ
    split
    · simp
    · have := spots_len a.toNat b.toNat (by omega)
      omega
  obtain ⟨ls, hls⟩ : ∃ ls, ls = spotsZ a b := ⟨_, rfl⟩
  have Hls := Lib.hid hls
  rw [← hls] at hsl
  clear hls
  go_enter Tryd.func5, Tryd.ntmps5
  go_wp2_with fail
  refine HS1.out.mono ?_
  rintro e w1 ⟨v, rfl, hv, hvo, hu1⟩
  rw [← Hls.out] at hv
  have HV := Lib.hid hv
  have HU1 := Lib.hid hu1
  clear hv hvo hu1 HS1
  go_wp2_with fail
  refine (HS2.out _).mono ?_
  rintro e w2 ⟨v2, rfl, hv2, _, hu2⟩
  rw [← Hls.out] at hv2
  have HU2 : Hid (Upd (fun _ => False) w w2) := HU1.out.trans (hu2.mono (fun _ _ e => e.elim))
  have HV1 : Hid (w2.ownsRow 0 33 2 v ls.length (spv ls)) := own_upd HV.out hu2 (fun _ _ => id)
  have HSm := Lib.hid (same2_spot v v2 ls w2 HV1.out hv2 (by omega))
  clear hv2 hu2 HS2
  go_wp2_with fail
  refine HSm.out.mono ?_
  rintro e w3 ⟨rfl, hu3⟩
  have HU3 : Hid (Upd (fun _ => False) w w3) := HU2.out.trans (hu3.mono (fun _ _ e => e.elim))
  have HV3 : Hid (w3.ownsRow 0 33 2 v ls.length (spv ls)) := own_upd HV1.out hu3 (fun _ _ => id)
  clear hu3 HSm
  obtain ⟨ao, cap, rfl⟩ := slice_form HV3.out
  obtain ⟨N, hN⟩ : ∃ N, N = ls.length := ⟨_, rfl⟩
  have HN := Lib.hid hN
  rw [← hN] at hsl HV3 ⊢
  clear hN HV HV1
  by_cases hnil : N = 0
  · subst hnil
    go_wp2
    go_loop [6, 7, 8] (fun at_ i _ => at_ = .int .i64 a ∧ i = .int .i64 0) (fun _ _ _ => 0)
    case atStart => exact ⟨rfl, rfl⟩
    case round =>
      obtain ⟨rfl, rfl⟩ := hrel
      go_wp2
      go_ret
      exact ⟨rfl, HU3.out⟩
  · obtain ⟨ca, cb⟩ : 0 ≤ a ∧ b ≤ 1099511627776 := by
      have h := Hls.out
      unfold spotsZ at h
      by_cases hc : a < 0 ∨ 1099511627776 < b
      · rw [if_pos hc] at h
        have := HN.out
        rw [h] at this
        exact absurd this hnil
      · omega
    obtain ⟨m, rfl⟩ : ∃ m : Nat, a = m := ⟨a.toNat, by omega⟩
    have hls : ls = spots m b.toNat := by
      have h := Hls.out
      unfold spotsZ at h
      rw [if_neg (by omega), Int.toNat_natCast] at h
      exact h
    have hbm : (m : Int) < b := by
      apply Decidable.byContradiction
      intro hc
      rw [spots_nil (by omega)] at hls
      have := HN.out
      rw [hls] at this
      exact absurd this hnil
    obtain ⟨n, rfl⟩ : ∃ n : Nat, b = n := ⟨b.toNat, by omega⟩
    rw [Int.toNat_natCast] at hls
    obtain ⟨g, hg⟩ : ∃ g, ao = some ⟨g, 0, none⟩ := by
      rcases HV3.out.2 with ⟨h, h2⟩ | ⟨g, cap, cur, h, _⟩
      · have := HN.out; omega
      · injection h with h; exact ⟨g, h⟩
    subst hg
    have Hl := Lib.hid hls
    clear hls Hls
    go_wp2
    go_loop [6, 7, 8] (fun at_ i _ => LTs m n ls at_ i) (fun _ i _ => N - (intOf i).toNat)
    case atStart => exact ⟨0, m, Nat.zero_le _, rfl, rfl, Hl.out, by omega, fun _ => rfl⟩
    case round =>
      obtain ⟨j, c, hj, rfl, rfl, hd, hcm, hj0⟩ := hrel
      have hjN : j ≤ N := by have := HN.out; omega
      have HD := Lib.hid hd
      clear hd hj hj0
      by_cases hlt : j < N
      · have hltI : (j : Int) < (N : Int) := by omega
        obtain ⟨hcn, hx, hdr⟩ := drop_at ls j c n HD.out (by rw [← HN.out]; exact hlt)
        obtain ⟨L, hL⟩ : ∃ L, L = lev c n := ⟨_, rfl⟩
        have HL := lev_spec c n hcn (by omega)
        rw [← hL] at HL hx hdr
        obtain ⟨P, hPe⟩ : ∃ P, P = 2 ^ L := ⟨_, rfl⟩
        obtain ⟨q, hqe⟩ : ∃ q, q = c / P := ⟨_, rfl⟩
        have hP : (2 : Int) ^ L = (P : Int) := by rw [hPe, Int.natCast_pow]; rfl
        have hP1 : 1 ≤ P := by rw [hPe]; exact Nat.two_pow_pos _
        have hPn : c + P ≤ n := by rw [hPe]; exact HL.2.1
        have hL40 : L ≤ 40 := HL.2.2.1
        have hqP : q * P = c := by rw [hqe, hPe]; exact Nat.div_mul_cancel HL.1
        have hqPI : (q : Int) * (P : Int) = (c : Int) := by rw [← Int.natCast_mul, hqP]
        have hne : ((c : Int) == (c : Int)) = true := by simp
        have hqc : q ≤ c := by rw [hqe]; exact Nat.div_le_self _ _
        rw [← hPe, ← hqe] at hx
        rw [← hPe] at hdr
        have hV4 := HV3.out
        rw [HN.out] at hV4
        have hcells := spot_at hV4 j (by rw [← HN.out]; exact hlt) _ hx
        clear hV4
        have e0 : w3.cell? ⟨g, j * 2, none⟩ = some (.int .i64 (L : Int)) := by have h := hcells 0 _ rfl; simpa using h
        have e1 : w3.cell? ⟨g, j * 2 + 1, none⟩ = some (.int .i64 (q : Int)) := by have h := hcells 1 _ rfl; simpa using h
        have HDr := Lib.hid hdr
        -- the next level does not fit
        have hlast : L < 40 → q % 2 = 0 → n < c + 2 * P := fun h1 h2 => by
          have h3 := HL.2.2.2 h1 (by
            obtain ⟨r, hr⟩ : ∃ r, q = 2 * r := ⟨q / 2, by omega⟩
            refine ⟨r, ?_⟩
            rw [← hqP, hr, Nat.pow_succ, ← hPe, Nat.mul_comm, Nat.mul_assoc])
          rw [Nat.pow_succ, ← hPe] at h3
          omega
        clear hx hdr HL hL hPe hqe hcells
        have hw2 : q * P ≤ 1099511627776 := by omega
        by_cases h40 : L < 40
        · by_cases hq2 : q % 2 = 0
          · have hq2B : ((q : Int) % 2 == 0) = true := by simp; omega
            have hnl := hlast h40 hq2
            have hleB : decide ((c : Int) + 2 * (P : Int) ≤ (n : Int)) = false := by simp; omega
            clear hlast hqP hw2
            go_wp2
            go_round
            case rel => exact ⟨j + 1, c + P, by have := HN.out; omega, by go_num, by go_num, HDr.out, by omega, fun h => by omega⟩
            case measure => simp [intOf]; omega
          · have hq2B : ((q : Int) % 2 == 0) = false := by simp; omega
            clear hlast hqP hw2
            go_wp2
            go_round
            case rel => exact ⟨j + 1, c + P, by have := HN.out; omega, by go_num, by go_num, HDr.out, by omega, fun h => by omega⟩
            case measure => simp [intOf]; omega
        · have h40B : decide ((L : Int) < 40) = false := by simp; omega
          clear hlast hqP hw2
          go_wp2
          go_round
          case rel => exact ⟨j + 1, c + P, by have := HN.out; omega, by go_num, by go_num, HDr.out, by omega, fun h => by omega⟩
          case measure => simp [intOf]; omega
      · have hd := HD.out
        rw [List.drop_eq_nil_of_le (by have := HN.out; omega)] at hd
        have hcn : ¬ c < n := fun h => by rw [spots_cons h] at hd; cases hd
        obtain rfl : c = n := by omega
        obtain rfl : j = N := by omega
        have hnlt : ¬ ((j : Int) < (j : Int)) := by omega
        have hj0 : ((j : Int) == 0) = false := by simp; omega
        have hcc : ((c : Int) == (c : Int)) = true := by simp
        clear hd hcn
        go_wp2
        go_ret
        exact ⟨rfl, HU3.out⟩
end Go.Proofs.YtgcionimhmbgeaaDoorR.SpD
