/-
  docketbook.Book[byte]: Apart with the marks Bytes.
-/
import Derived.Test.YtgfdnljblfkhkabDoorBookS
namespace Go.Proofs.YtgfdnljblfkhkabDoor.BookA
open Go.RowKit Sha Mem RowW CopyW BookW OffR BookM BookK BookS
set_option linter.unusedVariables false
set_option linter.unusedSimpArgs false

def mark (i j : Nat) : Int := ((i : Int) + 1) / 2 ^ (8 * (j % 3)) % 256
theorem bytes_any (i j : Nat) (hi : i ≤ 4000) (hj : (j : Int) ≤ 9223372036854775807) (w : World) :
    Calls Tryd.prog 17 #[.int .i64 i, .int .i64 j] w fun e w' => e = .returned (.int .u8 (mark i j)) ∧ w = w' := by
  go_enter Tryd.func17, Tryd.ntmps17
  go_wp2
  go_ret
  exact ⟨rfl, rfl⟩

def vcap : Value → Nat
  | .slice _ _ c => c
  | _ => 0
/-- the marks that stand: of the lists before the i-th all, of the i-th j -/
structure Mks (w1 : World) (K : List Ent) (i j : Nat) (wr : World) : Prop where
  upd : Upd (fun k => ∃ e ∈ K, Mem.own e.v k) w1 wr
  full : ∀ e ∈ K, ∀ k, Mem.own e.v k → ∃ cur, wr.heap[k]? = some (.cells cur 5 (0, 0)) ∧ cur.size = vcap e.v
  done : ∀ m e, K[m]? = some e → ∀ k, Mem.own e.v k → ∀ c, c < vcap e.v → (m < i ∨ m = i ∧ c < j) → wr.cell? ⟨k, c, none⟩ = some (.int .u8 (mark m c))

theorem Mks.start {w1 : World} {R O : Nat → Prop} {b : Nat} {T : TypeId} {cs : List Value} {o : Nat} {K : List Ent} {lv wv : Value} {hv : Int} (h : Bk w1 b T cs o K R O lv wv hv) : Mks w1 K 0 0 w1 := by
  refine ⟨Upd.refl _ _, fun e he k hk => ?_, fun m e hm k hk c hc h => by omega⟩
  rcases (h.ents e he).own.2 with ⟨h1, _⟩ | ⟨g, cap, cur, h1, _, hg, _, _, hs, _⟩
  · rw [h1] at hk; simp [Mem.own, Value.ownBlock] at hk
  · rw [h1] at hk ⊢
    simp [Mem.own, Value.ownBlock] at hk
    subst hk
    exact ⟨cur, hg, by rw [hs, Nat.mul_one]; rfl⟩
theorem Mks.drewN {w1 wr : World} {K : List Ent} {i j : Nat} (h : Mks w1 K i j wr) (n : Nat) : Mks w1 K i j (wr.drewN n) := ⟨RowW.Upd.drewN h.upd n, h.full, h.done⟩
theorem Mks.next {w1 wr : World} {K : List Ent} {i j : Nat} (h : Mks w1 K i j wr) (hj : ∀ e, K[i]? = some e → ∀ k, Mem.own e.v k → vcap e.v ≤ j) : Mks w1 K (i + 1) 0 wr :=
  ⟨h.upd, h.full, fun m e hm k hk c hc hlt => h.done m e hm k hk c hc (by
    rcases hlt with h1 | h1
    · by_cases he : m = i
      · subst he; exact .inr ⟨rfl, by have := hj e hm k hk; omega⟩
      · exact .inl (by omega)
    · omega)⟩
theorem Mks.put {w1 wr : World} {K : List Ent} {i j k : Nat} {e : Ent} (h : Mks w1 K i j wr) (ha : K.Pairwise (fun e f => ∀ k, Mem.own e.v k → ¬ Mem.own f.v k)) (he : K[i]? = some e) (hk : Mem.own e.v k) (hj : j < vcap e.v) : Mks w1 K i (j + 1) (wr.setCell ⟨k, j, none⟩ (.int .u8 (mark i j))) := by
  have hmem : e ∈ K := List.mem_of_getElem? he
  refine ⟨h.upd.setCell (.inl ⟨e, hmem, hk⟩) _, fun f hf g hg => ?_, fun m f hm g hg c hc hlt => ?_⟩
  · obtain ⟨cur, h1, h2⟩ := h.full f hf g hg
    by_cases hgk : g = k
    · subst hgk
      exact ⟨_, heap_setCell_same wr g j cur _ _ h1, by simpa using h2⟩
    · exact ⟨cur, (heap_setCell_other wr ⟨k, j, none⟩ g _ hgk).trans h1, h2⟩
  · by_cases hgk : g = k
    · subst hgk
      have hmi : m = i := by
        rcases Nat.lt_trichotomy m i with h1 | h1 | h1
        · exact absurd hk (List.pairwise_iff_getElem.1 ha m i (List.getElem?_eq_some_iff.1 hm).1 (List.getElem?_eq_some_iff.1 he).1 h1 g (by rw [(List.getElem?_eq_some_iff.1 hm).2]; exact hg) |> fun h => by rw [(List.getElem?_eq_some_iff.1 he).2] at h; exact h)
        · exact h1
        · exact absurd hg (List.pairwise_iff_getElem.1 ha i m (List.getElem?_eq_some_iff.1 he).1 (List.getElem?_eq_some_iff.1 hm).1 h1 g (by rw [(List.getElem?_eq_some_iff.1 he).2]; exact hk) |> fun h => by rw [(List.getElem?_eq_some_iff.1 hm).2] at h; exact h)
      subst hmi
      obtain ⟨cur, h1, h2⟩ := h.full f (List.mem_of_getElem? hm) g hg
      rw [cell_of_row _ _ _ _ _ _ (heap_setCell_same wr g j cur _ _ h1), Array.getElem?_setIfInBounds]
      by_cases hcj : j = c
      · subst hcj
        rw [if_pos rfl, if_pos (by omega)]
      · rw [if_neg hcj, ← cell_of_row _ _ _ _ _ _ h1]
        exact h.done m f hm g hg c hc (.inr ⟨rfl, by omega⟩)
    · have := h.done m f hm g hg c hc (by
        rcases hlt with h1 | h1
        · exact .inl h1
        · exact .inr ⟨h1.1, by
            have : f = e := by rw [h1.1, he] at hm; exact (Option.some.inj hm).symm
            subst this
            exact absurd (by simp only [Mem.own] at hk hg; rw [hk] at hg; exact (Option.some.inj hg).symm) hgk⟩)
      rw [World.cell?_setCell_far _ _ _ _ (fun e => hgk e.symm)]
      exact this

theorem Mks.lists {w1 wr : World} {R O : Nat → Prop} {b : Nat} {T : TypeId} {cs : List Value} {o : Nat} {K : List Ent} {lv wv : Value} {hv : Int} {i j : Nat} (h : Bk w1 b T cs o K R O lv wv hv) (hT8 : T ≠ 5) (hm : Mks w1 K i j wr) : Row wr b T cs ∧ OffR wr 22 lv (K.map Ent.v) :=
  ⟨h.row.upd hm.upd (fun ⟨e, he, hk⟩ => own_far h.row hT8 (h.ents e he).own hk rfl), h.lrow.upd hm.upd (fun k hk ⟨e, he, hk'⟩ => own_off (h.ents e he).own h.lrow hk' hk)⟩
theorem Mks.upd' {w1 wr w' : World} {K : List Ent} {i j : Nat} (h : Mks w1 K i j wr) (hu : Upd (fun _ => False) wr w') : Mks w1 K i j w' :=
  ⟨h.upd.trans (hu.mono fun _ _ e => e.elim), fun e he k hk => by
    obtain ⟨cur, h1, h2⟩ := h.full e he k hk
    exact ⟨cur, (hu.block k (lt_of_block h1) id).trans h1, h2⟩, fun m e hm k hk c hc hlt => hu.cell (h.done m e hm k hk c hc hlt) id⟩
theorem own_form {w : World} {v : Value} {n : Nat} {xs : List Value} (h : w.ownsRow 0 5 1 v n xs) : ∃ va vc, v = .slice va n vc ∧ n ≤ vc ∧ vc ≤ maxLen ∧ (va = none → n = 0 ∧ vc = 0) ∧ ∀ a, va = some a → ∃ g, a = ⟨g, 0, none⟩ := by
  rcases h.2 with ⟨rfl, rfl⟩ | ⟨g, cap, cur, rfl, _, _, h1, h2, _⟩
  · exact ⟨none, 0, rfl, Nat.le_refl _, Nat.zero_le _, (fun _ => ⟨rfl, rfl⟩), (fun a ha => by cases ha)⟩
  · exact ⟨_, cap, rfl, h1, h2, (fun h => by cases h), (fun a ha => by cases ha; exact ⟨g, rfl⟩)⟩

set_option maxHeartbeats 4000000 in
set_option maxRecDepth 100000 in
theorem apart_any (b o : Nat) (T : TypeId) (cs : List Value) (K : List Ent) (R O : Nat → Prop) (w : World) (hk : BkW w b T cs o K R O) (hT : T ≠ 22) (hT8 : T ≠ 5) (hlen : K.length ≤ 4000) :
    Calls Tryd.prog 16 #[.pointer (some ⟨b, o, none⟩), .func (.func 17) #[] #[]] w fun e w' =>
      e = .returned (.bool true) ∧ Row w' b T (((cs.set o (.slice none 0 0)).set (o + 1) (.slice none 0 0)).set (o + 2) (.int .i64 0)) ∧ Upd (fun k => k = b ∨ O k) w w' := by
  obtain ⟨lv, wv, hv, hk⟩ := hk
  have HSt := Lib.hid (stays_any b o T cs K R O lv wv hv w hk hlen)
  have HBk := Lib.hid hk
  have HT := Lib.hid hT
  have HT8 := Lib.hid hT8
  have HLen := Lib.hid hlen
  clear hk hT hT8 hlen
  go_enter Tryd.func16, Tryd.ntmps16
  go_wp2_with (go_at_call 37; refine HSt.out.mono ?_; rintro e w1 ⟨rfl, hu1⟩)
  have HB1 : Hid (Bk w1 b T cs o K R O lv wv hv) := HBk.out.upd hu1 id (fun _ _ _ => id) (fun _ _ _ => id)
  have HU1 := Lib.hid hu1
  clear hu1 HSt HBk
  obtain ⟨la, lc, hlv, hl1, hl2⟩ := HB1.out.lrow.form
  obtain ⟨N, hN⟩ : ∃ x, x = K.length := ⟨_, rfl⟩
  rw [List.length_map, ← hN] at hlv hl1
  subst hlv
  have HN := Lib.hid hN
  have HL1 := Lib.hid hl1
  have HL2 := Lib.hid hl2
  have HM0 := Lib.hid (Mks.start HB1.out)
  clear hN hl1 hl2
  go_loopg [5, 6, 7] N (fun g i l j wr => ∃ k : Nat, k + g = N ∧ i = .int .i64 k ∧ Mks w1 K k 0 wr)
  case atStart => exact ⟨0, by omega, rfl, HM0.out⟩
  case round =>
    obtain ⟨k, hkg, rfl, hm⟩ := hrel
    obtain ⟨g0, rfl⟩ : ∃ x : Nat, x = gk := ⟨_, rfl⟩
    obtain ⟨w2, rfl⟩ : ∃ x : World, x = wr := ⟨_, rfl⟩
    clear HM0
    obtain ⟨hr2, hl2⟩ := Mks.lists HB1.out HT8.out hm
    have c0 : w2.cell? ⟨b, o, none⟩ = some (.slice la N lc) := by rw [hr2.cell]; exact HB1.out.c0
    have HM := Lib.hid hm
    have HR2 := Lib.hid hr2
    have HLr := Lib.hid hl2
    clear hm hr2 hl2
    by_cases hlt : k < N
    · have hltI : (k : Int) < (N : Int) := by omega
      have hk4 : k ≤ 4000 := by have := HLen.out; have := HN.out; omega
      have hkl : k < K.length := by rw [← HN.out]; exact hlt
      obtain ⟨lg, lo, lc', hlv, _, _, hcl, _⟩ := HLr.out.some (by rw [List.length_map]; omega)
      rw [List.length_map, ← HN.out] at hlv
      injection hlv with e1 e2 e3
      subst e1 e3
      clear e2
      have ce := hcl k (by rw [List.length_map]; exact hkl)
      obtain ⟨e1, he1⟩ : ∃ x, x = K[k] := ⟨_, rfl⟩
      have hget : K[k]? = some e1 := by rw [he1, List.getElem?_eq_getElem hkl]
      have hE1 := HB1.out.ents e1 (List.mem_of_getElem? hget)
      have ev : (K.map Ent.v).getD k undef = e1.v := by rw [List.getD_eq_getElem?_getD, List.getElem?_map, hget]; rfl
      rw [ev] at ce
      obtain ⟨va, vc, hv1, hv2, hv3, hv4, hv5⟩ := own_form hE1.own
      obtain ⟨xn, hxn⟩ : ∃ x, x = e1.xs.length := ⟨_, rfl⟩
      rw [hv1, ← hxn] at ce
      rw [← hxn] at hv1 hv2 hv4
      have Hget := Lib.hid hget
      have Hv1 := Lib.hid hv1
      have Hv2 := Lib.hid hv2
      have Hv3 := Lib.hid hv3
      have Hv4 := Lib.hid hv4
      have Hv5 := Lib.hid hv5
      clear hcl he1 hget hE1 ev hv1 hv2 hv3 hv4 hv5 hxn hlt
      go_upto_region 6 with fail
      go_cut [6] (fun l wx => l = .slice va vc vc ∧ Mks w1 K k 0 wx)
      case first =>
        cases va with
        | none =>
          obtain ⟨rfl, rfl⟩ := Hv4.out rfl
          go_quiet (fail)
          go_wp2_with fail
          go_meet
          exact ⟨rfl, HM.out.drewN _⟩
        | some ad =>
          obtain ⟨vg, rfl⟩ := Hv5.out _ rfl
          have hv2I : (xn : Int) ≤ (vc : Int) := by have := Hv2.out; omega
          go_quiet (fail)
          go_wp2_with fail
          go_meet
          exact ⟨rfl, HM.out.drewN _⟩
      case rest =>
        obtain ⟨rfl, hm⟩ := hcut
        have HM2 := Lib.hid hm
        clear hm HM ce c0 HR2 HLr
        go_wp2
        go_loopg [7] vc (fun g j wx => ∃ c : Nat, c + g = vc ∧ j = .int .i64 c ∧ Mks w1 K k c wx)
        case atStart => exact ⟨0, by omega, rfl, HM2.out⟩
        case round =>
          obtain ⟨c, hcg, rfl, hm⟩ := hrel
          clear HM2
          have HM := Lib.hid hm
          have Hcg := Lib.hid hcg
          clear hm hcg
          by_cases hcv : c < vc
          · have hcI : (c : Int) < (vc : Int) := by omega
            obtain ⟨⟨vg, _, _⟩, rfl⟩ : ∃ ad, va = some ad := by
              cases va with
              | some ad => exact ⟨ad, rfl⟩
              | none => have := (Hv4.out rfl).2; omega
            obtain ⟨_, he⟩ := Hv5.out _ rfl
            cases he
            have hown : own e1.v vg := by rw [Hv1.out]; rfl
            have hvc : vcap e1.v = vc := by rw [Hv1.out]; rfl
            obtain ⟨cur, hb, hs⟩ := HM.out.full e1 (List.mem_of_getElem? Hget.out) vg hown
            have cc : wr.cell? ⟨vg, c, none⟩ = some cur[c] := by rw [cell_of_row _ _ _ _ _ _ hb, Array.getElem?_eq_getElem (by omega)]
            have fc : wr.frozen? ⟨vg, c, none⟩ = false := by simp [World.frozen?, hb]
            have HM3 : Hid (Mks w1 K k (c + 1) (wr.setCell ⟨vg, c, none⟩ (.int .u8 (mark k c)))) := HM.out.put HB1.out.apart Hget.out hown (by rw [hvc]; exact hcv)
            have HBy : Hid (∀ w', Calls Tryd.prog 17 #[.int .i64 k, .int .i64 c] w' fun e w'' => e = .returned (.int .u8 (mark k c)) ∧ w' = w'') := fun w' => bytes_any k c hk4 (by have := Hv3.out; unfold maxLen at this; omega) w'
            have Hvc := Lib.hid hvc
            have hcw : ((c : Int) + 1) ≤ (vc : Int) := by omega
            obtain ⟨x, hx⟩ : ∃ x, x = cur[c]'(by omega) := ⟨_, rfl⟩
            rw [← hx] at cc
            clear hown hvc hb hs hx HM
            go_wp2_with (go_at_call 17; refine (HBy.out _).mono ?_; rintro e w9 ⟨rfl, rfl⟩)
            go_roundg (gk - 1)
            case rel => exact ⟨c + 1, by have := Hcg.out; omega, by have := Hv3.out; unfold maxLen at this; unfold wrap64; simp; omega, HM3.out⟩
            case measure => have := Hcg.out; omega
          · have hcI : decide ((c : Int) < (vc : Int)) = false := by simp; omega
            have HM3 : Hid (Mks w1 K (k + 1) 0 wr) := HM.out.next (fun e he k' hk' => by
              have : e = e1 := by rw [Hget.out] at he; exact (Option.some.inj he).symm
              rw [this, Hv1.out]
              show vc ≤ c
              omega)
            clear HM
            go_wp2
            go_roundg (g0 - 1)
            case rel => exact ⟨k + 1, by omega, by go_num, HM3.out⟩
            case measure => omega
    · have hltI : decide ((k : Int) < (N : Int)) = false := by simp; omega
      obtain rfl : k = N := by omega
      obtain ⟨wA, hwA⟩ : ∃ x : World, x = w2 := ⟨_, rfl⟩
      rw [← hwA] at HM HR2 HLr c0 ⊢
      clear hwA hkg
      go_wp2
      go_loopg [8, 9, 10] k (fun g i l j wx => ∃ m : Nat, m + g = k ∧ i = .int .i64 m ∧ Upd (fun _ => False) wA wx)
      case atStart => exact ⟨0, by omega, rfl, Upd.refl _ _⟩
      case round =>
        obtain ⟨m, hmg, rfl, hu⟩ := hrel
        obtain ⟨g1, rfl⟩ : ∃ x : Nat, x = gk := ⟨_, rfl⟩
        obtain ⟨w3, rfl⟩ : ∃ x : World, x = wr := ⟨_, rfl⟩
        have d0 : w3.cell? ⟨b, o, none⟩ = some (.slice la k lc) := hu.cell c0 id
        have HL3 : Hid (OffR w3 22 (.slice la k lc) (K.map Ent.v)) := HLr.out.upd hu (fun _ _ => id)
        have HM3 : Hid (Mks w1 K k 0 w3) := HM.out.upd' hu
        have HU3 := Lib.hid hu
        clear hu
        by_cases hlt : m < k
        · have hltI2 : (m : Int) < (k : Int) := by omega
          have hk4 : m ≤ 4000 := by have := HLen.out; have := HN.out; omega
          have hkl : m < K.length := by rw [← HN.out]; exact hlt
          obtain ⟨lg, lo, lc', hlv, _, _, hcl, _⟩ := HL3.out.some (by rw [List.length_map]; omega)
          rw [List.length_map, ← HN.out] at hlv
          injection hlv with e1 e2 e3
          subst e1 e3
          clear e2
          have ce := hcl m (by rw [List.length_map]; exact hkl)
          obtain ⟨e1, he1⟩ : ∃ x, x = K[m] := ⟨_, rfl⟩
          have hget : K[m]? = some e1 := by rw [he1, List.getElem?_eq_getElem hkl]
          have hE1 := HB1.out.ents e1 (List.mem_of_getElem? hget)
          have ev : (K.map Ent.v).getD m undef = e1.v := by rw [List.getD_eq_getElem?_getD, List.getElem?_map, hget]; rfl
          rw [ev] at ce
          obtain ⟨va, vc, hv1, hv2, hv3, hv4, hv5⟩ := own_form hE1.own
          obtain ⟨xn, hxn⟩ : ∃ x, x = e1.xs.length := ⟨_, rfl⟩
          rw [hv1, ← hxn] at ce
          rw [← hxn] at hv1 hv2 hv4
          have Hget := Lib.hid hget
          have Hv1 := Lib.hid hv1
          have Hv2 := Lib.hid hv2
          have Hv3 := Lib.hid hv3
          have Hv4 := Lib.hid hv4
          have Hv5 := Lib.hid hv5
          clear hcl he1 hget hE1 ev hv1 hv2 hv3 hv4 hv5 hxn hlt
          go_upto_region 14 with fail
          go_cut [9] (fun l wx => l = .slice va vc vc ∧ Upd (fun _ => False) wA wx)
          case first =>
            cases va with
            | none =>
              obtain ⟨rfl, rfl⟩ := Hv4.out rfl
              go_quiet (fail)
              go_wp2_with fail
              go_meet
              exact ⟨rfl, RowW.Upd.drewN HU3.out _⟩
            | some ad =>
              obtain ⟨vg, rfl⟩ := Hv5.out _ rfl
              have hv2I : (xn : Int) ≤ (vc : Int) := by have := Hv2.out; omega
              go_quiet (fail)
              go_wp2_with fail
              go_meet
              exact ⟨rfl, RowW.Upd.drewN HU3.out _⟩
          case rest =>
            obtain ⟨rfl, hu4⟩ := hcut
            have HU4 := Lib.hid hu4
            clear hu4 HU3 ce d0 HL3 HM3
            go_wp2
            go_loopg [10] vc (fun g j wx => ∃ c : Nat, c + g = vc ∧ j = .int .i64 c ∧ Upd (fun _ => False) wA wx)
            case atStart => exact ⟨0, by omega, rfl, HU4.out⟩
            case round =>
              obtain ⟨c, hcg, rfl, hu⟩ := hrel
              clear HU4
              have HM5 : Hid (Mks w1 K k 0 wr) := HM.out.upd' hu
              have HU5 := Lib.hid hu
              have Hcg := Lib.hid hcg
              clear hu hcg
              by_cases hcv : c < vc
              · have hcI : (c : Int) < (vc : Int) := by omega
                obtain ⟨⟨vg, _, _⟩, rfl⟩ : ∃ ad, va = some ad := by
                  cases va with
                  | some ad => exact ⟨ad, rfl⟩
                  | none => have := (Hv4.out rfl).2; omega
                obtain ⟨_, he⟩ := Hv5.out _ rfl
                cases he
                have hown : own e1.v vg := by rw [Hv1.out]; rfl
                have hvc : vcap e1.v = vc := by rw [Hv1.out]; rfl
                have cc := HM5.out.done m e1 Hget.out vg hown c (by rw [hvc]; exact hcv) (.inl (by omega))
                have HBy : Hid (∀ w', Calls Tryd.prog 17 #[.int .i64 m, .int .i64 c] w' fun e w'' => e = .returned (.int .u8 (mark m c)) ∧ w'' = w') := fun w' => (bytes_any m c hk4 (by have := Hv3.out; unfold maxLen at this; omega) w').mono (fun e w'' h => ⟨h.1, h.2.symm⟩)
                have hcw : ((c : Int) + 1) ≤ (vc : Int) := by omega
                obtain ⟨x, hx⟩ : ∃ x, x = mark m c := ⟨_, rfl⟩
                rw [← hx] at cc HBy
                clear hown hvc hx HM5
                go_wp2
                go_quiet ((go_at_call 17; exact Calls.quiet_of_same (HBy.out _)))
                go_wp2
                go_roundg (gk - 1)
                case rel => exact ⟨c + 1, by have := Hcg.out; omega, by have := Hv3.out; unfold maxLen at this; unfold wrap64; simp; omega, RowW.Upd.drewN HU5.out _⟩
                case measure => have := Hcg.out; omega
              · have hcI : decide ((c : Int) < (vc : Int)) = false := by simp; omega
                go_wp2
                go_roundg (g1 - 1)
                case rel => exact ⟨m + 1, by omega, by go_num, HU5.out⟩
                case measure => omega
        · have hltI2 : decide ((m : Int) < (k : Int)) = false := by simp; omega
          have HR3 : Hid (Row w3 b T cs) := HR2.out.upd HU3.out id
          have HU6 : Hid (Upd (fun k => k = b ∨ O k) w w3) := HU1.out.mono (fun _ _ e => e.elim) |>.trans (HM3.out.upd.mono (fun k _ ⟨e, he, hk⟩ => .inl (.inr ((HB1.out.ents e he).inO k hk))))
          have f0 := HR3.out.frozen o
          have f1 := HR3.out.frozen (o + 1)
          have f2 := HR3.out.frozen (o + 2)
          have d1 : w3.cell? ⟨b, o + 1, none⟩ = some wv := by rw [HR3.out.cell]; exact HB1.out.c1
          have d2 : w3.cell? ⟨b, o + 2, none⟩ = some (.int .i64 hv) := by rw [HR3.out.cell]; exact HB1.out.c2
          go_wp2
          go_ret
          exact ⟨rfl, ((HR3.out.set o _).set (o + 1) _).set (o + 2) _, ((HU6.out.setCell (.inl (.inl rfl)) _).setCell (.inl (.inl rfl)) _).setCell (.inl (.inl rfl)) _⟩
end Go.Proofs.YtgfdnljblfkhkabDoor.BookA
