/-
  docketlaw4.FramePacks answers true.
-/
import Derived.Test.YtgfdnljblfkhkabDoorRefPack
import Derived.Test.YtgfdnljblfkhkabDoorBookA
import Derived.Test.YtgfdnljblfkhkabDoorTurn4
import Derived.Test.YtgfdnljblfkhkabDoorFrFirst
namespace Go.Proofs.YtgfdnljblfkhkabDoor.FrPacks
open Go.RowKit Sha Mem Width PutW WriterW RowW CopyW BookW RawB Crc FrTurn FrScan FrFits FrBegin FrOne FrWalk FrEnd FrPack ListsB FrPackE RefLow RefPack OffR BookM BookK BookS BookA Turn4 FrFirst
set_option linter.unusedVariables false
set_option linter.unusedSimpArgs false

/-- what a record is packed to, and the refusal -/
def fr (n : Int) (p : List UInt8) : List UInt8 := if nok n = true ∧ p.length ≤ 65536 then frame n p else []
def cod (n : Int) (p : List UInt8) : Int := if nok n = true then (if p.length ≤ 65536 then 0 else 6) else 1
theorem fr_le (n : Int) (p : List UInt8) : (fr n p).length ≤ 65549 := by
  unfold fr
  split
  · rename_i h; rw [frame_len]; omega
  · simp
/-- a packing's answer, of whatever record -/
def Std (n : Int) (p : List UInt8) (fl : Nat) (w : World) (e : Ending) (w' : World) : Prop :=
  ∃ vo vc, e = .returned (.tuple #[.slice vo fl vc, .int .i64 (cod n p)]) ∧ Nw w w' (.slice vo fl vc) fl (fr n p) ∧ Upd (fun _ => False) w w'
theorem std_of {n : Int} {p : List UInt8} {w w' : World} {e : Ending} {fl : Nat} (hfl : fl = (fr n p).length) (h : PackAt n p w e w') : Std n p fl w e w' := by
  subst hfl
  rcases h with ⟨h1, h2, v, rfl, h3, h4⟩ | ⟨h1, rfl, rfl⟩ | ⟨h1, h2, rfl, rfl⟩
  · have e1 : fr n p = frame n p := if_pos ⟨h1, h2⟩
    have e2 : cod n p = 0 := by unfold cod; rw [if_pos h1, if_pos h2]
    obtain ⟨vo, vc, rfl⟩ := IntsW.slice_form h3
    unfold Std
    rw [e1, e2]
    exact ⟨vo, vc, rfl, ⟨World.ownsRow.mono h3 (Nat.zero_le _), rfl, fun k hk => (h3.lt k hk).1⟩, h4⟩
  · have e1 : fr n p = [] := by unfold fr; rw [if_neg (by rw [h1]; simp)]
    have e2 : cod n p = 1 := by unfold cod; rw [if_neg (by rw [h1]; simp)]
    unfold Std
    rw [e1, e2]
    exact ⟨none, 0, rfl, ⟨World.ownsRow_nil _ _ _ 1, rfl, fun k hk => by simp [own, Value.ownBlock] at hk⟩, Upd.refl _ _⟩
  · have e1 : fr n p = [] := by unfold fr; rw [if_neg (by omega)]
    have e2 : cod n p = 6 := by unfold cod; rw [if_pos h1, if_neg (by omega)]
    unfold Std
    rw [e1, e2]
    exact ⟨none, 0, rfl, ⟨World.ownsRow_nil _ _ _ 1, rfl, fun k hk => by simp [own, Value.ownBlock] at hk⟩, Upd.refl _ _⟩

/-- the book, in memory that is new since w4 -/
def LPs (w4 : World) (bb : Nat) (wr : World) : Prop :=
  ∃ K cs, K.length ≤ 4000 ∧ BkW wr bb 30 cs 0 K (fun k => w4.heap.size ≤ k ∧ k < wr.heap.size) (fun k => w4.heap.size ≤ k ∧ k < wr.heap.size) ∧ Upd (fun k => k = bb) w4 wr

set_option maxHeartbeats 4000000 in
set_option maxRecDepth 100000 in
theorem walk (n : Int) (ao : Option Addr) (m cap : Nat) (p : List UInt8) (w : World) (hs : Sl w (.slice ao m cap) p) (ho : ∀ k, own (.slice ao m cap) k → k < w.heap.size) (hm : m ≤ 140737488351232) (ht : Tw w) :
    Calls Tryd.prog 3 #[.int .i64 n, .slice ao m cap] w fun e w' => e = .returned (.bool true) ∧ Upd (fun _ => False) w w' := by
  have hml : m = p.length := by obtain ⟨_, _, h, _⟩ := hs; injection h
  have Hs := Lib.hid hs
  have Ho := Lib.hid ho
  have Ht := Lib.hid ht
  have Hml := Lib.hid hml
  clear hs ho ht hml
  obtain ⟨F, hF⟩ : ∃ x, x = fr n p := ⟨_, rfl⟩
  obtain ⟨C, hC⟩ : ∃ x, x = cod n p := ⟨_, rfl⟩
  obtain ⟨fl, hfl⟩ : ∃ x, x = F.length := ⟨_, rfl⟩
  have hflb : fl ≤ 65549 := by rw [hfl, hF]; exact fr_le n p
  have Hfl := Lib.hid hfl
  have Hfl' : Hid (fl = (fr n p).length) := by show _ = _; rw [hfl, hF]
  have HF := Lib.hid hF
  have HC := Lib.hid hC
  clear hfl hF hC
  go_enter Tryd.func3, Tryd.ntmps3
  go_wp2_with fail
  refine (first_any w Ht.out).mono ?_
  rintro e w1 ⟨rfl, hu1⟩
  have HU1 := Lib.hid hu1
  clear hu1
  go_wp2_with fail
  refine (rpack_el n ao m cap p w1 (El.of_sl (Hs.out.upd HU1.out (fun _ _ => id))) (fun _ k hk => Nat.lt_of_lt_of_le (Ho.out k hk) HU1.out.size)).mono ?_
  intro e w2 h2
  obtain ⟨qo, qc, rfl, hn2, hu2⟩ := std_of Hfl'.out h2
  rw [← HF.out] at hn2
  rw [← HC.out]
  have HQ2 := Lib.hid hn2
  have HU2 : Hid (Upd (fun _ => False) w w2) := HU1.out.trans (hu2.mono fun _ _ e => e.elim)
  clear h2 hn2 hu2
  go_wp2_with fail
  refine (roomy_any ao m cap p 165 w2 (Hs.out.upd HU2.out (fun _ _ => id)) (by omega)).mono ?_
  rintro e w3 ⟨g, rfl, hg3, hr3, hu3⟩
  have HR3 := Lib.hid hr3
  have HU3 : Hid (Upd (fun _ => False) w w3) := HU2.out.trans (hu3.mono fun _ _ e => e.elim)
  have HQ3 : Hid (Sl w3 (.slice qo fl qc) F) := HQ2.out.sl.upd hu3 (fun _ _ => id)
  have HG3 := Lib.hid hg3
  clear hr3 hu3 hg3
  go_wp2_with fail
  obtain ⟨w4, hw4⟩ : ∃ x, x = w3.alloc (.cells #[.slice none 0 0, .slice none 0 0, .int .i64 0, .bool false] 30) := ⟨_, rfl⟩
  obtain ⟨bb, hbb⟩ : ∃ x, x = w3.heap.size := ⟨_, rfl⟩
  rw [← hw4, ← hbb]
  have HB0 : Hid (BkW w4 bb 30 [.slice none 0 0, .slice none 0 0, .int .i64 0, .bool false] 0 [] (fun k => w4.heap.size ≤ k ∧ k < w4.heap.size) (fun k => w4.heap.size ≤ k ∧ k < w4.heap.size)) := by
    have h := BkW.empty (o := 0) (show Row w4 bb 30 [.slice none 0 0, .slice none 0 0, .int .i64 0, .bool false] by rw [hw4, hbb]; exact Row.new _ _ _) rfl rfl rfl rfl
    exact h.mono (fun _ h _ => h.elim) (fun _ h _ => h.elim)
  have hu4 : Upd (fun _ => False) w3 w4 := by rw [hw4]; exact (Upd.refl _ _).alloc _
  have hbs : w4.heap.size = bb + 1 := by rw [hw4, hbb]; simp
  have HU4 : Hid (Upd (fun _ => False) w w4) := HU3.out.trans (hu4.mono fun _ _ e => e.elim)
  have HR4 : Hid (Row w4 g 5 ((FL p 165).map Mem.u8)) := HR3.out.upd hu4 id
  have HQ4 : Hid (Sl w4 (.slice qo fl qc) F) := HQ3.out.upd hu4 (fun _ _ => id)
  have hgb : g < bb := by rw [hbb]; exact HR3.out.lt
  have HQo : Hid (∀ k, own (.slice qo fl qc) k → k < bb) := fun k hk => by
    have h1 := (HQ2.out.own.lt k hk).2
    have h2 := HG3.out
    omega
  have Hwb : Hid (w.heap.size ≤ bb) := by show _ ≤ _; rw [hbb]; exact HU3.out.size
  have Hbs := Lib.hid hbs
  have Hgb := Lib.hid hgb
  have hmI : (m : Int) ≤ (m : Int) + 80 := by omega
  clear hw4 hbb hu4 hbs HR3 HQ3 HU3 hgb
  go_loopw [9, 10, 11] (fun i f e wr => ∃ k : Nat, k ≤ 2 ∧ i = .int .i64 k ∧ LPs w4 bb wr) (fun i _ _ _ => 2 - (intOf i).toNat)
  case atStart => exact ⟨0, by omega, rfl, [], _, by simp, HB0.out, Upd.refl _ _⟩
  case round =>
    obtain ⟨k, hk2, rfl, K, cs, hK, hbk, hu⟩ := hrel
    by_cases hlt : k < 2
    · have hltI : (k : Int) < 2 := by omega
      have hgb := Hgb.out
      have hwr : Upd (fun _ => False) w wr := HU4.out.trans (hu.mono fun j _ e => .inr (by rw [e]; exact Hwb.out))
      have hr5 : Row wr g 5 ((FL p 165).map Mem.u8) := HR4.out.upd hu (by omega)
      have hsl5 : Sl wr (.slice (some ⟨g, 0, none⟩) m (m + 80)) p := by
        have h2 := Sl.of_row (n := m) (cap := m + 80) hr5 (by rw [FL_len]; have := Hml.out; omega) (by omega) (by unfold maxLen; omega)
        have e : (FL p 165).take m = p := by rw [Hml.out, FL_take]
        rwa [e] at h2
      have HPk := Lib.hid (pack_el n (some ⟨g, 0, none⟩) m (m + 80) p wr (El.of_sl hsl5) (fun _ k hk => by simp [own, Value.ownBlock] at hk; rw [← hk]; exact hr5.lt) (Ht.out.upd hwr id))
      have HR5 := Lib.hid hr5
      have HU5 := Lib.hid hu
      have HB5 := Lib.hid hbk
      have HK5 := Lib.hid hK
      have HW5 := Lib.hid hwr
      clear hgb hwr hr5 hsl5 hu hbk hK hlt
      go_wp2_with fail
      refine HPk.out.mono ?_
      intro e w5 h5
      obtain ⟨fo, fc, rfl, hn5, hu5⟩ := std_of Hfl'.out h5
      rw [← HF.out] at hn5
      rw [← HC.out]
      have HN5 := Lib.hid hn5
      have HX5 := Lib.hid hu5
      have HSa := Lib.hid (fun w' (h : Upd (fun _ => False) w5 w') => same_any fo qo fl fc qc F w' (hn5.sl.upd h (fun _ _ => id)) ((HQ4.out.upd HU5.out (fun k hk e => by have := HQo.out k hk; omega)).upd (hu5.trans (h.mono fun _ _ e => e.elim)) (fun _ _ => id)) (by omega))
      have HIn := Lib.hid (fun w' (h : Upd (fun _ => False) w5 w') => intact_any ⟨g, 0, none⟩ (m + 80) ao m cap p 165 w' (by
        have h2 := Sl.row (cap := m + 80) ((HR5.out.upd hu5 id).upd h id) (by rw [FL_len]; have := Hml.out; omega) (by unfold maxLen; omega)
        rwa [FL_len, ← Hml.out] at h2) (Hs.out.upd (HW5.out.trans ((hu5.trans (h.mono fun _ _ e => e.elim)).mono fun _ _ e => e.elim)) (fun _ _ => id)) (by omega))
      clear h5 hn5 hu5 HPk
      go_wp2_with (first
        | (go_at_call 12; refine (HSa.out _ (Upd.refl _ _)).mono ?_; rintro e w6 ⟨rfl, hu6⟩; have HU6 := Lib.hid hu6; clear hu6)
        | (go_at_call 13; refine (HIn.out _ HU6.out).mono ?_; rintro e w7 ⟨rfl, hu7⟩; have HU7 : Hid (Upd (fun _ => False) w5 w7) := HU6.out.trans (hu7.mono fun _ _ e => e.elim); clear hu7))
      have HKp := Lib.hid (keep_any bb 0 30 cs K _ _ fo fl fc F w7 (HB5.out.kept (HX5.out.trans (HU7.out.mono fun _ _ e => e.elim))) (by decide) (by decide) (IntsW.own_upd HN5.out.own HU7.out (fun _ _ => id)) (fun k hk e => by have := HN5.out.new k hk; omega) HK5.out (by omega))
      refine HKp.out.mono ?_
      rintro e w8 ⟨rfl, u, K', cs', hsf, hne, hlen', hb', hbut, hu'⟩
      have HL8 : Hid (LPs w4 bb w8) := by
        have h1 := HX5.out.size
        have h2 := HU7.out.size
        have h4 := HU5.out.size
        refine ⟨K', cs', hlen', hb'.mono (fun k h3 h5 => ⟨?_, h5⟩) (fun k h3 h5 => ⟨?_, h5⟩), ?_⟩
        · rcases h3 with h3 | h3
          · exact h3.1
          · omega
        · rcases h3 with h3 | h3
          · exact h3.1
          · have := HN5.out.new k h3; omega
        · refine (HU5.out.trans (HX5.out.mono fun _ _ e => e.elim)).trans ((HU7.out.mono fun _ _ e => e.elim).trans (hu'.mono fun k _ e => ?_))
          rcases e with e | e
          · exact .inl (.inl e)
          · exact .inl (.inr e.1)
      clear hsf hne hlen' hb' hbut hu' HKp HSa HIn HN5 HX5 HR5 HU5 HB5 HK5 HW5 HU6 HU7
      go_wp2_with fail
      go_roundw
      case rel => exact ⟨k + 1, by omega, by go_num, HL8.out⟩
      case measure => simp [intOf]; omega
    · obtain rfl : k = 2 := by omega
      have hgb := Hgb.out
      have hbs := Hbs.out
      have hwr : Upd (fun _ => False) w wr := HU4.out.trans (hu.mono fun j _ e => .inr (by rw [e]; exact Hwb.out))
      have hr5 : Row wr g 5 ((FL p 165).map Mem.u8) := HR4.out.upd hu (by omega)
      obtain ⟨L2, hL2⟩ : ∃ x, x = tf (FL p 165) 0 m := ⟨_, rfl⟩
      have hL2l : L2.length = m + 80 := by rw [hL2, tf_len _ _ _ (Nat.zero_le _), FL_len, Hml.out]
      obtain ⟨q, hq⟩ : ∃ x, x = L2.take m := ⟨_, rfl⟩
      have hql : q.length = m := by rw [hq, List.length_take]; omega
      have HTn : Hid (Calls Tryd.prog 15 #[.slice (some ⟨g, 0, none⟩) m (m + 80), .int .i64 0] wr (Turn4At wr g 0 m (FL p 165))) := turned4_any g m (m + 80) 0 (FL p 165) wr hr5 (by rw [FL_len]; have := Hml.out; omega) (Nat.zero_le _) (by omega) (by unfold maxLen; omega) (by omega)
      have hT5 : Hid (∀ e w', Turn4At wr g 0 m (FL p 165) e w' → ∃ lo lc, e = .returned (.slice lo m lc) ∧ Sl w' (.slice lo m lc) q ∧ (∀ k, own (.slice lo m lc) k → wr.heap.size ≤ k) ∧ Row w' g 5 (L2.map Mem.u8) ∧ Upd (fun k => k = g) wr w') := by
        rintro e w' ⟨v, rfl, h1, h2, h3, h4⟩
        rw [← hL2] at h1 h3
        rw [← hq] at h1
        obtain ⟨lo, lc, rfl, h5⟩ := id h1
        rw [hql] at h1 h2 ⊢
        exact ⟨lo, lc, rfl, h1, h2, h3, h4⟩
      have HB5 := Lib.hid hbk
      have HK5 := Lib.hid hK
      have HW5 := Lib.hid hwr
      have HL2l := Lib.hid hL2l
      have Hq := Lib.hid hq
      have Hql := Lib.hid hql
      clear hr5 hwr hu hbk hK hL2 hL2l hq hql hgb hbs
      go_wp2_with fail
      refine HTn.out.mono ?_
      intro e w5 h5
      obtain ⟨lo, lc, rfl, hs5, hn5, hr5, hu5⟩ := hT5.out _ _ h5
      have hgb := Hgb.out
      have hbs := Hbs.out
      have hwbb := Hwb.out
      have HW6 : Hid (Upd (fun _ => False) w w5) := HW5.out.trans (hu5.mono fun j _ e => .inr (by rw [e]; have := HG3.out; have := HU2.out.size; omega))
      have HB6 : Hid (BkW w5 bb 30 cs 0 K (fun k => w4.heap.size ≤ k ∧ k < wr.heap.size) (fun k => w4.heap.size ≤ k ∧ k < wr.heap.size)) :=
        HB5.out.upd hu5 (by omega) (fun k h _ e => by omega) (fun k h _ e => by omega)
      have HS6 := Lib.hid hs5
      have HR6 := Lib.hid hr5
      have HN6 := Lib.hid hn5
      have HZ6 := Lib.hid hu5.size
      have hsl6 : Sl w5 (.slice (some ⟨g, 0, none⟩) m (m + 80)) q := by
        have h2 := Sl.of_row (n := m) (cap := m + 80) hr5 (by rw [HL2l.out]; omega) (by omega) (by unfold maxLen; omega)
        rwa [← Hq.out] at h2
      obtain ⟨F2, hF2⟩ : ∃ x, x = fr n q := ⟨_, rfl⟩
      obtain ⟨C2, hC2⟩ : ∃ x, x = cod n q := ⟨_, rfl⟩
      obtain ⟨fl2, hfl2⟩ : ∃ x, x = F2.length := ⟨_, rfl⟩
      have hfl2b : fl2 ≤ 65549 := by rw [hfl2, hF2]; exact fr_le n q
      have Hfl2 : Hid (fl2 = (fr n q).length) := by show _ = _; rw [hfl2, hF2]
      have HF2 := Lib.hid hF2
      have HC2 := Lib.hid hC2
      have HPk := Lib.hid (pack_el n (some ⟨g, 0, none⟩) m (m + 80) q w5 (El.of_sl hsl6) (fun _ k hk => by simp [own, Value.ownBlock] at hk; rw [← hk]; exact hr5.lt) (Ht.out.upd HW6.out id))
      clear h5 hs5 hn5 hr5 hu5 hsl6 hfl2 hF2 hC2 hT5 HTn hgb hbs hwbb HW5 HB5
      go_wp2_with fail
      refine HPk.out.mono ?_
      intro e w6 h6
      obtain ⟨fo, fc, rfl, hn7, hu7⟩ := std_of Hfl2.out h6
      rw [← HF2.out] at hn7
      rw [← HC2.out]
      have HN7 := Lib.hid hn7
      have HX7 := Lib.hid hu7
      have HRp := Lib.hid (rpack_el n lo m lc q w6 (El.of_sl (HS6.out.upd hu7 (fun _ _ => id))) (fun hq k hk => by
        obtain ⟨ao', cap', he, h1, h2, h3, h4⟩ := HS6.out
        injection he with e1 e2 e3
        subst e1
        cases lo with
        | none => simp [own, Value.ownBlock] at hk
        | some ad =>
          have hk' : ad.block = k := by simpa [own, Value.ownBlock] using hk
          have h0 : 0 < q.length := List.length_pos_iff.2 hq
          have h5 := World.block_lt_of_cell? w5 _ ((h4 ad rfl).2 0 h0)
          have h6 := hu7.size
          simp [Addr.add] at h5
          omega))
      clear h6 hn7 hu7 HPk
      go_wp2_with fail
      refine HRp.out.mono ?_
      intro e w7 h7
      obtain ⟨vo, vc, rfl, hn8, hu8⟩ := std_of Hfl2.out h7
      rw [← HF2.out] at hn8
      rw [← HC2.out]
      have HX8 := Lib.hid hu8
      have HSa := Lib.hid (same_any fo vo fl2 fc vc F2 w7 (HN7.out.sl.upd hu8 (fun _ _ => id)) hn8.sl (by omega))
      clear h7 hn8 hu8 HRp
      go_wp2_with (go_at_call 12; refine HSa.out.mono ?_; rintro e w8 ⟨rfl, hu8⟩; have HX9 := Lib.hid hu8; clear hu8)
      have HX10 : Hid (Upd (fun _ => False) w5 w8) := (HX7.out.trans (HX8.out.mono fun _ _ e => e.elim)).trans (HX9.out.mono fun _ _ e => e.elim)
      have hrow8 : Row w8 g 5 (L2.map Mem.u8) := HR6.out.upd HX10.out id
      have hown8 : w8.ownsRow 0 5 1 (.slice (some ⟨g, 0, none⟩) (m + 80) (m + 80)) (m + 80) (L2.map Mem.u8) :=
        ⟨by rw [List.length_map, HL2l.out]; omega, .inr ⟨g, m + 80, _, rfl, Nat.zero_le _, hrow8, Nat.le_refl _, by unfold maxLen; omega, by simp [HL2l.out], by simp; rw [List.take_of_length_le]; rw [List.length_map, HL2l.out]; omega⟩⟩
      have HKp := Lib.hid (keep_any bb 0 30 cs K _ _ (some ⟨g, 0, none⟩) (m + 80) (m + 80) L2 w8 (HB6.out.kept HX10.out) (by decide) (by decide) hown8 (fun k hk e => by
        simp [own, Value.ownBlock] at hk
        have := Hgb.out
        have := Hbs.out
        omega) HK5.out (by omega))
      clear hrow8 hown8
      refine HKp.out.mono ?_
      rintro e w9 ⟨rfl, u, K', cs', hsf, hne, hlen', hb', hbut, hu'⟩
      have HAp := Lib.hid (apart_any bb 0 30 cs' K' _ _ w9 hb' (by decide) (by decide) hlen')
      have HU9 : Hid (Upd (fun _ => False) w w9) := (HW6.out.trans (HX10.out.mono fun _ _ e => e.elim)).trans (hu'.mono fun k _ e => .inr (by
        have h1 := Hwb.out
        have h2 := HU4.out.size
        rcases e with e | e
        · rw [e]; exact h1
        · have := e.1; omega))
      clear hsf hne hlen' hb' hbut hu' HKp
      go_wp2_with fail
      refine HAp.out.mono ?_
      rintro e w10 ⟨rfl, _, hu10⟩
      have HU10 : Hid (Upd (fun _ => False) w w10) := HU9.out.trans (hu10.mono fun k hk e => .inr (by
        have h1 := Hwb.out
        have h2 := HU4.out.size
        have h3 := HG3.out
        have h4 := HU2.out.size
        rcases e with e | e | e
        · rw [e]; exact h1
        · have := e.1; omega
        · simp [own, Value.ownBlock] at e; omega))
      go_wp2_with fail
      go_ret
      exact ⟨rfl, HU10.out⟩
end Go.Proofs.YtgfdnljblfkhkabDoor.FrPacks
