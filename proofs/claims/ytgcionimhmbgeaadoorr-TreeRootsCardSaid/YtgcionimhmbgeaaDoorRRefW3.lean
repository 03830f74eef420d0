/-
  docketref2.Sum is SHA-256.
-/
import Derived.Test.YtgcionimhmbgeaaDoorRRefW1
import Derived.Test.YtgcionimhmbgeaaDoorRRefL
import Derived.StillTailTactics
import Derived.Deep.Cut
namespace Go.Proofs.YtgcionimhmbgeaaDoorR.RefW3
open Go.RowKit Sha Mem RowW CopyW BookW EqW SumH NewW HashM RefM RefW1 HeldW
set_option linter.unusedVariables false
set_option linter.unusedSimpArgs false

def A8 : Array Value := ((List.replicate 8 (0 : UInt32)).map W).toArray
def A16 : Array Value := ((List.replicate 16 (0 : UInt32)).map W).toArray
theorem zero8 (w : World) : (zeroValue 112).run Tryd.prog w = .ok (.agg A8) w := by kernel_rfl
theorem zero16 (w : World) : (zeroValue 113).run Tryd.prog w = .ok (.agg A16) w := by kernel_rfl
theorem one_w (l : List UInt32) : (l.map W).toArray.all (·.oneCell') = true := by
  simp only [List.all_toArray, List.all_map, List.all_eq_true]
  intro x _
  rfl
theorem wcell {w : World} {g : Nat} {T : TypeId} {l : List UInt32} {i : Nat} {x : UInt32} (h : Row w g T (l.map W)) (hi : l[i]? = some x) : w.cell? ⟨g, i, none⟩ = some (.int .u32 (U x)) := by
  rw [h.cell, List.getElem?_map, hi]
  rfl
theorem KN_k (t : Nat) (h : t < 64) : KN[t]? = some (K.getD t 0) := by
  unfold KN
  have hl : K.length = 64 := rfl
  rw [List.getElem?_append_left (by omega), List.getD_eq_getElem?_getD, List.getElem?_eq_getElem (by omega)]
  rfl
theorem KN_s (j : Nat) (h : j < 8) : KN[64 + j]? = some ((ws init).getD j 0) := by
  match j, h with
  | 0, _ => rfl
  | 1, _ => rfl
  | 2, _ => rfl
  | 3, _ => rfl
  | 4, _ => rfl
  | 5, _ => rfl
  | 6, _ => rfl
  | 7, _ => rfl

def L1 (SB : Nat) (wS : World) (i : Value) (wr : World) : Prop :=
  ∃ j : Nat, j ≤ 8 ∧ i = .int .i64 j ∧ Row wr SB 112 ((isub j).map W) ∧ Upd (fun k => k = SB) wS wr
def L2 (SB N : Nat) (l : List UInt8) (wS : World) (i : Value) (wr : World) : Prop :=
  ∃ m : Nat, 64 * m ≤ N ∧ i = .int .i64 ((64 * m : Nat) : Int) ∧ Row wr SB 112 ((ws (blocks init m (pad l))).map W) ∧ Upd (fun k => k = SB) wS wr

def L3 (WB : Nat) (M : List UInt8) (w3 : World) (i : Value) (wr : World) : Prop :=
  ∃ j : Nat, j ≤ 64 ∧ i = .int .i64 j ∧ Row wr WB 113 ((wlist M j).map W) ∧ Upd (fun k => k = WB) w3 wr

def L4 (RB WB : Nat) (M : List UInt8) (st : St) (w4 : World) (i : Value) (wr : World) : Prop :=
  ∃ t : Nat, t ≤ 64 ∧ i = .int .i64 t ∧ Row wr RB 112 ((ring8 (rounds M st t) t).map W) ∧ Row wr WB 113 ((ring16 M t).map W) ∧ Upd (fun k => k = RB ∨ k = WB) w4 wr
def L5 (SB : Nat) (st rr : St) (w5 : World) (i : Value) (wr : World) : Prop :=
  ∃ j : Nat, j ≤ 8 ∧ i = .int .i64 j ∧ Row wr SB 112 ((ssub st rr j).map W) ∧ Upd (fun k => k = SB) w5 wr
def L6 (DB : Nat) (st : St) (w6 : World) (i : Value) (wr : World) : Prop :=
  ∃ j : Nat, j ≤ 32 ∧ i = .int .i64 j ∧ Row wr DB 23 ((osb st j).map u8) ∧ Upd (fun k => k = DB) w6 wr
theorem size16w : (Tryd.prog.info? 113).map (·.size) = some 16 := by kernel_rfl
theorem wsd (s : St) : (ws s).getD 0 0 = s.a ∧ (ws s).getD 1 0 = s.b ∧ (ws s).getD 2 0 = s.c ∧ (ws s).getD 3 0 = s.d ∧ (ws s).getD 4 0 = s.e ∧ (ws s).getD 5 0 = s.f ∧ (ws s).getD 6 0 = s.g ∧ (ws s).getD 7 0 = s.h := ⟨rfl, rfl, rfl, rfl, rfl, rfl, rfl, rfl⟩
theorem rounds_step (M : List UInt8) (st : St) (t : Nat) (k x : UInt32) (hk : k = K.getD t 0) (hx : x = RefM.S M t) :
    rounds M st (t + 1) = ⟨tx (rounds M st t) k x + ty (rounds M st t), (rounds M st t).a, (rounds M st t).b, (rounds M st t).c, (rounds M st t).d + tx (rounds M st t) k x, (rounds M st t).e, (rounds M st t).f, (rounds M st t).g⟩ := by
  rw [hk, hx]
  have e : rounds M st (t + 1) = round (rounds M st t) (K.getD t 0) (RefM.S M t) := rfl
  rw [e]
  generalize rounds M st t = s
  generalize K.getD t 0 = k
  generalize RefM.S M t = x
  rfl
theorem place8 (t q : Nat) (ht : t < 64) (hq : q < 8) (c : Int) (hc : c = 64 + q) : ∃ x : Nat, Hid (x = (64 + q - t) % 8) ∧ x < 8 ∧ (x : Int) < 8 ∧ (c - (t : Int)) % 8 = (x : Int) ∧ (c - (t : Int)).tmod 8 = (x : Int) ∧ IntKind.i64.wrap (x : Int) = (x : Int) ∧ IntKind.i64.wrap (c - (t : Int)) = c - (t : Int) := by
  subst hc
  have e : ((64 : Int) + (q : Int) - (t : Int)) % 8 = (((64 + q - t) % 8 : Nat) : Int) := by omega
  refine ⟨(64 + q - t) % 8, Lib.hid rfl, by omega, by omega, e, by rw [Int.tmod_eq_emod_of_nonneg (by omega)]; exact e, IntWalk.i64_in _ (by omega), IntWalk.i64_in _ (by omega)⟩
theorem ringB (M : List UInt8) (t : Nat) (h0 : 16 ≤ t) (ht : t < 64) : (ring16 M t)[t % 16]? = some (RefM.S M (t - 16)) ∧ (ring16 M t)[(t + 1) % 16]? = some (RefM.S M (t - 15)) ∧
    (ring16 M t)[(t + 9) % 16]? = some (RefM.S M (t - 7)) ∧ (ring16 M t)[(t + 14) % 16]? = some (RefM.S M (t - 2)) := by
  refine ⟨?_, ?_, ?_, ?_⟩
  · have h := ring16_at M t (t - 16) (by omega) (by omega) (by omega)
    rwa [show (t - 16) % 16 = t % 16 by omega] at h
  · have h := ring16_at M t (t - 15) (by omega) (by omega) (by omega)
    rwa [show (t - 15) % 16 = (t + 1) % 16 by omega] at h
  · have h := ring16_at M t (t - 7) (by omega) (by omega) (by omega)
    rwa [show (t - 7) % 16 = (t + 9) % 16 by omega] at h
  · have h := ring16_at M t (t - 2) (by omega) (by omega) (by omega)
    rwa [show (t - 2) % 16 = (t + 14) % 16 by omega] at h
theorem ringw (M : List UInt8) (t : Nat) (ht : t < 64) : (ring16 M (t + 1))[t % 16]? = some (RefM.S M t) := ring16_at M (t + 1) t (by omega) (by omega) (by omega)
theorem ndh_aux (t : Nat) (ht : t < 64) (e : (64 + 3 - t) % 8 = (64 + 7 - t) % 8) : False := by omega
theorem place16 (t : Nat) (ht : t < 64) : ∃ x : Nat, Hid (x = t % 16) ∧ x < 16 ∧ (x : Int) < 16 ∧ (t : Int) % 16 = (x : Int) ∧ (t : Int).tmod 16 = (x : Int) ∧ IntKind.i64.wrap (x : Int) = (x : Int) ∧ IntKind.i64.wrap (t : Int) = t := by
  have e : (t : Int) % 16 = ((t % 16 : Nat) : Int) := by omega
  refine ⟨t % 16, Lib.hid rfl, by omega, by omega, e, by rw [Int.tmod_eq_emod_of_nonneg (by omega)]; exact e, IntWalk.i64_in _ (by omega), IntWalk.i64_in _ (by omega)⟩
theorem placew (t q : Nat) (ht : t < 64) (hq : q < 16) (c : Int) (hc : c = q) : ∃ x : Nat, Hid (x = (t + q) % 16) ∧ x < 16 ∧ (x : Int) < 16 ∧ ((t : Int) + c) % 16 = (x : Int) ∧ ((t : Int) + c).tmod 16 = (x : Int) ∧ IntKind.i64.wrap (x : Int) = (x : Int) ∧ IntKind.i64.wrap ((t : Int) + c) = (t : Int) + c := by
  subst hc
  have e : ((t : Int) + (q : Int)) % 16 = (((t + q) % 16 : Nat) : Int) := by omega
  refine ⟨(t + q) % 16, Lib.hid rfl, by omega, by omega, e, by rw [Int.tmod_eq_emod_of_nonneg (by omega)]; exact e, IntWalk.i64_in _ (by omega), IntWalk.i64_in _ (by omega)⟩

set_option maxHeartbeats 16000000 in
set_option maxRecDepth 100000 in
theorem refsum_any (ao : Option Addr) (n cap : Nat) (l : List UInt8) (w : World) (hs : Sl w (.slice ao n cap) l) (hown : ∀ k, own (.slice ao n cap) k → k < w.heap.size) (hr : n ≤ 140737488355000) :
    Calls Tryd.prog 47 #[.slice ao n cap] w fun e w' => e = .returned (.agg ((sha l).map u8).toArray) ∧ Upd (fun _ => False) w w' := by
  obtain ⟨Y, hY⟩ : ∃ Y, Y = ((sha l).map u8).toArray := ⟨_, rfl⟩
  have hl32 : (sha l).length = 32 := rfl
  have HY1 : Hid (Y.all (·.oneCell') = true) := by show _ = _; rw [hY]; simpa using one_of (sha l)
  have HYs : Hid ((Tryd.prog.info? 23).map (·.size) = some Y.size) := by show _ = _; rw [size32, hY]; rfl
  have HYl : Hid (AD.size = Y.size) := by show _ = _; rw [hY]; rfl
  have HKs : Hid ((Tryd.prog.info? 110).map (·.size) = some AK.size) := by show _ = _; rw [size72]; rfl
  have HKl : Hid (A72.size = AK.size) := by show _ = _; rfl
  have HK1 : Hid (AK.all (·.oneCell') = true) := one72
  have HY := Lib.hid hY
  have hnl : n = l.length := by obtain ⟨_, _, h, _⟩ := hs; injection h
  have Hn := Lib.hid hnl
  have Hs := Lib.hid hs
  have Hown := Lib.hid hown
  have hz := zeroD
  have hz72 := zero72
  have hz8 := zero8
  have hz16 := zero16
  obtain ⟨ak, hak⟩ : ∃ a, a = AK := ⟨_, rfl⟩
  have Hak := Lib.hid hak
  clear hY hs hown hl32 hnl
  obtain ⟨N, hN⟩ : ∃ N : Nat, (n + 72) / 64 * 64 = N := ⟨_, rfl⟩
  have hNi : ((n : Int) + 72) / 64 * 64 = (N : Int) := by omega
  have hNb : (N : Int) ≤ 140737488355400 := by omega
  have HN : Hid (N = (n + 72) / 64 * 64) := hN.symm
  clear hN
  go_enter Tryd.func47, Tryd.ntmps47
  go_wp2_with fail
  refine (numbers_any _).mono ?_
  rintro e w1 ⟨rfl, hu⟩
  rw [← hak] at HKs HKl HK1 ⊢
  have hr0 : w.heap.size < w1.heap.size := by have := hu.size; simp at this; omega
  have HR1 : Hid (w1.heap[w.heap.size]? = some (.cells AD 23 (0, 0))) := (hu.block _ (by simp) id).trans (heap_alloc_new _ _)
  have HU1 : Hid (Upd (fun _ => False) w w1) := ((Upd.refl _ w).alloc _).trans (hu.mono (fun _ _ h => h.elim))
  clear hu hak
  go_wp2_with ((with_reducible refine wpList_store_new (o := ⟨none, .store 110 (.tmp 3) (.tmp 25), _, _, _, _⟩) ?_ _ (.tmp 3) (.tmp 25) ?_ w1.heap.size ak ?_ ?_ 110 A72 (heap_alloc_new _ _) HKs.out HKl.out HK1.out ?_); rfl; rfl; rfl; rfl; intro w2 Hg2 Hu2)
  clear hNi hz72
  obtain ⟨SB, hSB⟩ : ∃ SB, SB = w2.heap.size := ⟨_, rfl⟩
  obtain ⟨wS, hwS⟩ : ∃ wS, wS = w2.alloc (.cells A8 112) := ⟨_, rfl⟩
  have hkb : w1.heap.size < SB := by rw [hSB]; exact lt_of_block Hg2.out
  have hgs : SB < wS.heap.size := by rw [hwS, hSB]; simp
  have HKS : Hid (Row wS w1.heap.size 110 (KN.map W)) := by
    show Row _ _ _ _
    have h := Hg2.out
    rw [Hak.out] at h
    rw [hwS]
    exact (Below.heap_alloc _ _ _ (by omega)).trans h
  have HRS : Hid (wS.heap[w.heap.size]? = some (.cells AD 23 (0, 0))) := by
    show _ = _
    rw [hwS, Below.heap_alloc _ _ _ (by omega), Hu2.out.block _ (by simp; omega) (by omega), Below.heap_alloc _ _ _ (by omega)]
    exact HR1.out
  have HUS : Hid (Upd (fun _ => False) w wS) := by
    show Upd _ _ _
    rw [hwS]
    exact ((HU1.out.alloc _).trans (Hu2.out.mono (fun k _ e => .inr (by omega)))).alloc _
  have HS1 : Hid (L1 SB wS (.int .i64 0) wS) := ⟨0, by omega, rfl, by rw [isub_zero, hwS, hSB]; exact Row.new _ _ _, Upd.refl _ _⟩
  rw [← hSB, ← hwS]
  clear hwS hSB Hg2 Hu2 HR1 HU1 HK1 HKl HKs Hak
  go_loopw [6] (fun i wr => L1 SB wS i wr) (fun i _ => (8 - intOf i).toNat)
  case atStart => exact HS1.out
  case round =>
    clear HS1
    obtain ⟨j, hj, rfl, hrow, hu⟩ := hrel
    have HR := Lib.hid hrow
    have HU := Lib.hid hu
    clear hrow hu
    by_cases hlt : j < 8
    · have hltI : (j : Int) < 8 := by omega
      obtain ⟨x, hx⟩ : ∃ x, x = (ws init).getD j 0 := ⟨_, rfl⟩
      have c0 : wr.cell? ⟨w1.heap.size, 64 + j, none⟩ = some (.int .u32 (U x)) := by
        rw [hx]; exact wcell (HKS.out.upd HU.out (by omega)) (KN_s j hlt)
      have e0 : ((64 : Int) + (j : Int)).toNat = 64 + j := by omega
      have c1 : wr.cell? ⟨SB, j, none⟩ = some (W ((isub j).getD j 0)) := by
        have hl : j < (isub j).length := by simp [isub, ws]; omega
        rw [HR.out.cell, List.getElem?_map, List.getD_eq_getElem?_getD, List.getElem?_eq_getElem hl]
        rfl
      have f1 := HR.out.frozen j
      have HX := Lib.hid hx
      clear hx
      go_wp2
      go_roundw
      case rel =>
        refine ⟨j + 1, by omega, by go_num, ?_, HU.out.put _ _ (.inl rfl) _⟩
        rw [← isub_set j hlt, List.map_set, ← HX.out]
        exact HR.out.set j _
      case measure => simp [intOf]; omega
    · obtain rfl : j = 8 := by omega
      rw [show ((8 : Nat) : Int) = 8 from rfl]
      clear hj hlt
      have HS2 : Hid (L2 SB N l wS (.int .i64 0) wr) := ⟨0, by omega, rfl, by have h := HR.out; rwa [isub_all] at h, HU.out⟩
      clear HR HU
      go_wp2
      go_loopw [7] (fun i wr => L2 SB N l wS i wr) (fun i _ => (N - (intOf i).toNat))
      case atStart => exact HS2.out
      case round =>
        clear HS2
        obtain ⟨m, hm, rfl, hrow, hu⟩ := hrel
        have HR := Lib.hid hrow
        have HU := Lib.hid hu
        clear hrow hu
        by_cases hlt : 64 * m < N
        · have hltI : ((64 * m : Nat) : Int) < (N : Int) := by omega
          have h64 : 64 * m + 64 ≤ N := by have := HN.out; omega
          obtain ⟨p, hp⟩ : ∃ p, p = 64 * m := ⟨_, rfl⟩
          rw [← hp] at hltI ⊢
          have HP := Lib.hid hp
          obtain ⟨M, hM⟩ : ∃ M, M = blk (pad l) m := ⟨_, rfl⟩
          have HM := Lib.hid hM
          clear hp hM hm hlt
          obtain ⟨wo, hwo⟩ : ∃ wo, wo = wr := ⟨_, rfl⟩
          subst hwo
          obtain ⟨WB, hWB⟩ : ∃ WB, WB = wo.heap.size := ⟨_, rfl⟩
          obtain ⟨w3, hw3⟩ : ∃ w3, w3 = wo.alloc (.cells A16 113) := ⟨_, rfl⟩
          have hwb : SB < WB := by rw [hWB]; exact HR.out.lt
          have hks : w1.heap.size < w3.heap.size := by rw [hw3]; have := HR.out.lt; simp; omega
          have HR3 : Hid (Row w3 SB 112 ((ws (blocks init m (pad l))).map W)) := by
            show Row _ _ _ _
            rw [hw3]; exact HR.out.alloc _
          have HU3 : Hid (Upd (fun k => k = SB) wS w3) := by
            show Upd _ _ _
            rw [hw3]; exact HU.out.alloc _
          have hws3 : wS.heap.size ≤ WB := by rw [hWB]; exact HU.out.size
          have HS3 : Hid (L3 WB M w3 (.int .i64 0) w3) := ⟨0, by omega, rfl, by rw [wlist_zero, hw3, hWB]; exact Row.new _ _ _, Upd.refl _ _⟩
          have hsw3 : WB < w3.heap.size := by rw [hw3, hWB]; simp
          go_wp2
          rw [← hWB, ← hw3]
          clear hw3 hWB HR HU hz hz8 hz16
          go_loopw [9] (fun i wr => L3 WB M w3 i wr) (fun i _ => (64 - intOf i).toNat)
          case atStart => exact HS3.out
          case round =>
            clear HS3
            obtain ⟨i, hi, rfl, hrow, hu⟩ := hrel
            have HR := Lib.hid hrow
            have HU := Lib.hid hu
            clear hrow hu
            by_cases hlt : i < 64
            · have hltI : (i : Int) < 64 := by omega
              obtain ⟨q, hq⟩ : ∃ q, q = i / 4 := ⟨_, rfl⟩
              have hq16 : q < 16 := by omega
              have hq16I : (q : Int) < 16 := by omega
              have e1 : (i : Int) / 4 = (q : Int) := by omega
              have e2 : (i : Int).tdiv 4 = (q : Int) := by rw [Int.tdiv_eq_ediv_of_nonneg (by omega)]; exact e1
              have e3 : IntKind.i64.wrap (q : Int) = (q : Int) := IntWalk.i64_in _ (by omega)
              obtain ⟨r, hr'⟩ : ∃ r, r = p + i := ⟨_, rfl⟩
              have e4 : (p : Int) + (i : Int) = (r : Int) := by omega
              have e5 : IntKind.i64.wrap (r : Int) = (r : Int) := IntWalk.i64_in _ (by have := HP.out; omega)
              obtain ⟨c, hc⟩ : ∃ c, c = M.getD i 0 := ⟨_, rfl⟩
              have hc' : c = (pad l).getD r 0 := by rw [hc, HM.out, blk_at _ _ _ hlt, hr', HP.out]
              have HB := Lib.hid (fun w' (h : Upd (fun k => k = WB) w3 w') => byteAt_at ao n cap l N r HN.out c hc' w'
                (Hs.out.upd ((HUS.out.trans (HU3.out.mono (fun k _ e => .inr (by omega)))).trans (h.mono (fun k _ e => .inr (by omega)))) (fun _ _ => id)) (by omega) (by have := HP.out; omega))
              obtain ⟨x, hx⟩ : ∃ x, x = wsub M i q := ⟨_, rfl⟩
              have c0 : wr.cell? ⟨WB, q, none⟩ = some (.int .u32 (U x)) := by rw [hx]; exact wcell HR.out (wlist_get M i q hq16)
              have f0 := HR.out.frozen q
              have HX := Lib.hid hx
              have HQ := Lib.hid hq
              have HC := Lib.hid hc
              clear hx hq hc hc' hr'
              go_wp2
              go_still_tail 16, (by kernel_rfl)
              repeat (first | still_step | still_call (HB.out _ HU.out.drew))
              refine wpStill_nil ?_
              change wpList _ _ _ _ _ wr.drew
              go_wp2
              go_roundw
              case rel =>
                refine ⟨i + 1, by omega, by go_num, ?_, (HU.out.put _ _ (.inl rfl) _).drew⟩
                rw [← wlist_set M i hlt, List.map_set, ← HQ.out, ← HX.out, ← HC.out]
                exact (HR.out.set q _).drew
              case measure => simp [intOf]; omega
            · obtain rfl : i = 64 := by omega
              rw [show ((64 : Nat) : Int) = 64 from rfl]
              clear hi hlt
              obtain ⟨st, hst⟩ : ∃ st, st = blocks init m (pad l) := ⟨_, rfl⟩
              obtain ⟨ls, hls⟩ : ∃ ls, ls = ((ws st).map W).toArray := ⟨_, rfl⟩
              have I8 : Hid ((Tryd.prog.info? 112).map (·.size) = some ls.size) := by show _ = _; rw [size8, hls]; rfl
              have O8 : Hid (ls.all (·.oneCell') = true) := by show _ = _; rw [hls]; exact one_w _
              have Z8 : Hid (A8.size = ls.size) := by show _ = _; rw [hls]; rfl
              obtain ⟨wi, hwi⟩ : ∃ wi, wi = wr := ⟨_, rfl⟩
              subst hwi
              obtain ⟨RB, hRB⟩ : ∃ RB, RB = wi.heap.size := ⟨_, rfl⟩
              have hS' : Row wi SB 112 ((ws st).map W) := by rw [hst]; exact HR3.out.upd HU.out (by omega)
              have HGS : Hid (wi.heap[SB]? = some (.cells ls 112 (0, 0))) := by show _ = _; rw [hls]; exact hS'
              have HST := Lib.hid hst
              have HLS := Lib.hid hls
              clear hst hls hS'
              have hrb : WB < RB := by rw [hRB]; exact HR.out.lt
              have hz8 := zero8
              have HNEW : Hid ((wi.alloc (.cells A8 112)).heap[RB]? = some (.cells A8 112 (0, 0))) := by show _ = _; rw [hRB]; exact heap_alloc_new _ _
              have HRBe := Lib.hid hRB
              clear hRB
              go_wp2_with (first
                | ((with_reducible refine wpList_load_row (o := ⟨some 66, _, _, _, _, _⟩) ?_ _ (.tmp 5) ?_ SB ?_ 112 ls (0, 0) _ HGS.out Tryd.underlying112 ?_ I8.out ?_); rfl; rfl; rfl; rfl)
                | ((with_reducible refine wpList_store_new (o := ⟨none, .store 112 (.tmp 10) (.tmp 66), _, _, _, _⟩) ?_ _ (.tmp 10) (.tmp 66) ?_ RB ls ?_ ?_ 112 A8 HNEW.out I8.out Z8.out O8.out ?_); rfl; rfl; (rw [HRBe.out]; rfl); rfl; intro w4 Hg4 Hu4))
              rw [← HRBe.out]
              clear hz8
              have HW4 : Hid (Row w4 WB 113 ((ring16 M 0).map W)) := by
                have h := HR.out
                rw [wlist_end] at h
                exact (h.alloc _).upd Hu4.out (by omega)
              have HS4 : Hid (Row w4 SB 112 ((ws st).map W)) := by
                have h := HGS.out
                rw [HLS.out] at h
                exact (Row.alloc h _).upd Hu4.out (by omega)
              have HRB4 : Hid (Row w4 RB 112 ((ring8 (rounds M st 0) 0).map W)) := by
                have h := Hg4.out
                rw [HLS.out] at h
                exact h
              have HU4 : Hid (Upd (fun k => k = SB) wS w4) := by
                have e := HRBe.out
                exact ((HU3.out.trans (HU.out.mono (fun k _ e => .inr (by omega)))).alloc _).trans (Hu4.out.mono (fun k _ e => .inr (by have := HU.out.size; omega)))
              have HK4 : Hid (Row w4 w1.heap.size 110 (KN.map W)) := HKS.out.upd HU4.out (by omega)
              have HL4 : Hid (L4 RB WB M st w4 (.int .i64 0) w4) := ⟨0, by omega, rfl, HRB4.out, HW4.out, Upd.refl _ _⟩
              clear HR HU HR3 HU3 HGS I8 O8 Z8 HNEW Hg4 Hu4 HRB4 HW4 HLS
              go_wp2
              go_loopw [11] (fun i wr => L4 RB WB M st w4 i wr) (fun i _ => (64 - intOf i).toNat)
              case atStart => exact HL4.out
              case round =>
                clear HL4
                obtain ⟨t, ht, rfl, hrow, hrow2, hu⟩ := hrel
                have HRr0 := Lib.hid hrow
                have HWr := Lib.hid hrow2
                have HUr := Lib.hid hu
                clear hrow hrow2 hu
                have nwr : RB ≠ WB := by omega
                have nk : ¬ (w1.heap.size = RB ∨ w1.heap.size = WB) := by omega
                by_cases hlt : t < 64
                · have hltI : (t : Int) < 64 := by omega

                  by_cases h16 : 16 ≤ t
                  · have h16I : (16 : Int) ≤ (t : Int) := Int.ofNat_le.2 h16
                    obtain ⟨pw, hpw, pwlt, pwltI, pwe1, pwe2, pwe3, pwe4⟩ := place16 t hlt
                    obtain ⟨w1p, hw1p, w1plt, w1pltI, w1pe1, w1pe2, w1pe3, w1pe4⟩ := placew t 1 hlt (by decide) 1 (by decide)
                    obtain ⟨w9p, hw9p, w9plt, w9pltI, w9pe1, w9pe2, w9pe3, w9pe4⟩ := placew t 9 hlt (by decide) 9 (by decide)
                    obtain ⟨w14p, hw14p, w14plt, w14pltI, w14pe1, w14pe2, w14pe3, w14pe4⟩ := placew t 14 hlt (by decide) 14 (by decide)
                    obtain ⟨y0, hy0⟩ : ∃ x, x = RefM.S M (t - 16) := ⟨_, rfl⟩
                    obtain ⟨y1, hy1⟩ : ∃ x, x = RefM.S M (t - 15) := ⟨_, rfl⟩
                    obtain ⟨y2, hy2⟩ : ∃ x, x = RefM.S M (t - 7) := ⟨_, rfl⟩
                    obtain ⟨y3, hy3⟩ : ∃ x, x = RefM.S M (t - 2) := ⟨_, rfl⟩
                    have b0 : wr.cell? ⟨WB, pw, none⟩ = some (.int .u32 (U y0)) := by rw [hy0, hpw.out]; exact wcell HWr.out (ringB M t h16 hlt).1
                    have b1 : wr.cell? ⟨WB, w1p, none⟩ = some (.int .u32 (U y1)) := by rw [hy1, hw1p.out]; exact wcell HWr.out (ringB M t h16 hlt).2.1
                    have b2 : wr.cell? ⟨WB, w9p, none⟩ = some (.int .u32 (U y2)) := by rw [hy2, hw9p.out]; exact wcell HWr.out (ringB M t h16 hlt).2.2.1
                    have b3 : wr.cell? ⟨WB, w14p, none⟩ = some (.int .u32 (U y3)) := by rw [hy3, hw14p.out]; exact wcell HWr.out (ringB M t h16 hlt).2.2.2
                    have fw := HWr.out.frozen pw
                    have HYY : Hid (y0 = RefM.S M (t - 16) ∧ y1 = RefM.S M (t - 15) ∧ y2 = RefM.S M (t - 7) ∧ y3 = RefM.S M (t - 2)) := ⟨hy0, hy1, hy2, hy3⟩
                    clear hy0 hy1 hy2 hy3
                    go_wp2_with (go_at_call 81; refine (right_w _ _ (by decide) (by decide) _).mono ?_; rintro e w' ⟨rfl, rfl⟩)
                    go_still_tail 17, (by kernel_rfl)
                    repeat still_step
                    (try refine wpStill_nil ?_)
                    change wpList _ _ _ _ _ wr.drew
                    go_upto_region 26 with (fail)
                    obtain ⟨wq, hwq⟩ : ∃ wq, wq = (wr.setCell ⟨WB, pw, none⟩ (.int .u32 (U (y0 + (rotr y1 7 ^^^ rotr y1 18 ^^^ sr y1 3) + y2 + (rotr y3 17 ^^^ rotr y3 19 ^^^ sr y3 10))))).drew := ⟨_, rfl⟩
                    rw [← hwq]
                    have hS : RefM.S M t = y0 + (rotr y1 7 ^^^ rotr y1 18 ^^^ sr y1 3) + y2 + (rotr y3 17 ^^^ rotr y3 19 ^^^ sr y3 10) := by
                      rw [S_next M t h16 hlt, ← HYY.out.1, ← HYY.out.2.1, ← HYY.out.2.2.1, ← HYY.out.2.2.2]; rfl
                    have HRq : Hid (Row wq RB 112 ((ring8 (rounds M st t) t).map W)) := by
                      show Row _ _ _ _
                      rw [hwq]; exact (HRr0.out.far nwr _).drew
                    have HWq : Hid (Row wq WB 113 ((ring16 M (t + 1)).map W)) := by
                      show Row _ _ _ _
                      rw [hwq, ← ring16_set M t h16 hlt, List.map_set, hS, ← hpw.out]; exact (HWr.out.set pw _).drew
                    have HUq : Hid (Upd (fun k => k = RB ∨ k = WB) w4 wq) := by
                      show Upd _ _ _
                      rw [hwq]; exact (HUr.out.put _ _ (.inl (.inr rfl)) _).drew
                    clear hwq hS b0 b1 b2 b3 fw HRr0 HWr HUr HYY
                    clear pwe1 pwe2 pwe3 pwe4 w1pe1 w1pe2 w1pe3 w1pe4 w9pe1 w9pe2 w9pe3 w9pe4 w14pe1 w14pe2 w14pe3 w14pe4
                    obtain ⟨rs, hrs⟩ : ∃ rs, rs = rounds M st t := ⟨_, rfl⟩
                    have HRS' := Lib.hid hrs
                    have hR := HRq.out
                    rw [← hrs] at hR
                    have HRr := Lib.hid hR
                    clear hrs
                    obtain ⟨xa, hxa⟩ : ∃ x, x = rs.a := ⟨_, rfl⟩
                    have Hxa := Lib.hid hxa
                    clear hxa
                    obtain ⟨xb, hxb⟩ : ∃ x, x = rs.b := ⟨_, rfl⟩
                    have Hxb := Lib.hid hxb
                    clear hxb
                    obtain ⟨xc, hxc⟩ : ∃ x, x = rs.c := ⟨_, rfl⟩
                    have Hxc := Lib.hid hxc
                    clear hxc
                    obtain ⟨xd, hxd⟩ : ∃ x, x = rs.d := ⟨_, rfl⟩
                    have Hxd := Lib.hid hxd
                    clear hxd
                    obtain ⟨xe, hxe⟩ : ∃ x, x = rs.e := ⟨_, rfl⟩
                    have Hxe := Lib.hid hxe
                    clear hxe
                    obtain ⟨xf, hxf⟩ : ∃ x, x = rs.f := ⟨_, rfl⟩
                    have Hxf := Lib.hid hxf
                    clear hxf
                    obtain ⟨xg, hxg⟩ : ∃ x, x = rs.g := ⟨_, rfl⟩
                    have Hxg := Lib.hid hxg
                    clear hxg
                    obtain ⟨xh, hxh⟩ : ∃ x, x = rs.h := ⟨_, rfl⟩
                    have Hxh := Lib.hid hxh
                    clear hxh
                    obtain ⟨kk, hkk⟩ : ∃ x, x = K.getD t 0 := ⟨_, rfl⟩
                    obtain ⟨ww, hww⟩ : ∃ x, x = RefM.S M t := ⟨_, rfl⟩
                    have Hkk := Lib.hid hkk
                    have Hww := Lib.hid hww
                    clear hkk hww hR
                    obtain ⟨pa, hpa, palt, paltI, pae1, pae2, pae3, pae4⟩ := place8 t 0 hlt (by decide) 64 (by decide)
                    have cpa : wq.cell? ⟨RB, pa, none⟩ = some (.int .u32 (U xa)) := by rw [Hxa.out, hpa.out]; exact wcell HRr.out (ring8_at rs t 0 (Nat.le_of_lt hlt) (by decide))
                    go_upto_region 27 with (fail)
                    clear cpa pae1 pae2 pae3 pae4
                    obtain ⟨pe, hpe, pelt, peltI, pee1, pee2, pee3, pee4⟩ := place8 t 4 hlt (by decide) 68 (by decide)
                    have cpe : wq.cell? ⟨RB, pe, none⟩ = some (.int .u32 (U xe)) := by rw [Hxe.out, hpe.out]; exact wcell HRr.out (ring8_at rs t 4 (Nat.le_of_lt hlt) (by decide))
                    go_upto_region 28 with (fail)
                    clear cpe pee1 pee2 pee3 pee4
                    obtain ⟨pf, hpf, pflt, pfltI, pfe1, pfe2, pfe3, pfe4⟩ := place8 t 5 hlt (by decide) 69 (by decide)
                    have cpf : wq.cell? ⟨RB, pf, none⟩ = some (.int .u32 (U xf)) := by rw [Hxf.out, hpf.out]; exact wcell HRr.out (ring8_at rs t 5 (Nat.le_of_lt hlt) (by decide))
                    go_upto_region 29 with (fail)
                    clear cpf pfe1 pfe2 pfe3 pfe4
                    obtain ⟨pg, hpg, pglt, pgltI, pge1, pge2, pge3, pge4⟩ := place8 t 6 hlt (by decide) 70 (by decide)
                    have cpg : wq.cell? ⟨RB, pg, none⟩ = some (.int .u32 (U xg)) := by rw [Hxg.out, hpg.out]; exact wcell HRr.out (ring8_at rs t 6 (Nat.le_of_lt hlt) (by decide))
                    go_upto_region 30 with (fail)
                    clear cpg pge1 pge2 pge3 pge4
                    obtain ⟨ph, hph, phlt, phltI, phe1, phe2, phe3, phe4⟩ := place8 t 7 hlt (by decide) 71 (by decide)
                    go_upto_region 31 with (fail)
                    clear phe1 phe2 phe3 phe4
                    have cph : wq.cell? ⟨RB, ph, none⟩ = some (.int .u32 (U xh)) := by rw [Hxh.out, hph.out]; exact wcell HRr.out (ring8_at rs t 7 (Nat.le_of_lt hlt) (by decide))
                    obtain ⟨pw, hpw, pwlt, pwltI, pwe1, pwe2, pwe3, pwe4⟩ := place16 t hlt
                    have ck : wq.cell? ⟨w1.heap.size, t, none⟩ = some (.int .u32 (U kk)) := by
                      rw [Hkk.out]
                      exact wcell (HK4.out.upd HUq.out nk) (KN_k t hlt)
                    have cw : wq.cell? ⟨WB, pw, none⟩ = some (.int .u32 (U ww)) := by
                      rw [Hww.out, hpw.out]
                      exact wcell HWq.out (ringw M t hlt)
                    go_quiet ((go_at_call 81; exact Calls.quiet_of_same (right_int _ _ (by decide) (by decide) _)))
                    clear pwe1 pwe2 pwe3 pwe4 ck cw cph
                    obtain ⟨pb, hpb, pblt, pbltI, pbe1, pbe2, pbe3, pbe4⟩ := place8 t 1 hlt (by decide) 65 (by decide)
                    have cpb : (wq.drewN nq).cell? ⟨RB, pb, none⟩ = some (.int .u32 (U xb)) := by rw [Hxb.out, hpb.out]; exact wcell HRr.out (ring8_at rs t 1 (Nat.le_of_lt hlt) (by decide))
                    go_upto_region 33 with (fail)
                    clear cpb pbe1 pbe2 pbe3 pbe4
                    obtain ⟨pc, hpc, pclt, pcltI, pce1, pce2, pce3, pce4⟩ := place8 t 2 hlt (by decide) 66 (by decide)
                    have cpc : (wq.drewN nq).cell? ⟨RB, pc, none⟩ = some (.int .u32 (U xc)) := by rw [Hxc.out, hpc.out]; exact wcell HRr.out (ring8_at rs t 2 (Nat.le_of_lt hlt) (by decide))
                    go_upto_region 34 with (fail)
                    clear cpc pce1 pce2 pce3 pce4
                    obtain ⟨pd, hpd, pdlt, pdltI, pde1, pde2, pde3, pde4⟩ := place8 t 3 hlt (by decide) 67 (by decide)
                    have cpd : (wq.drewN nq).cell? ⟨RB, pd, none⟩ = some (.int .u32 (U xd)) := by rw [Hxd.out, hpd.out]; exact wcell HRr.out (ring8_at rs t 3 (Nat.le_of_lt hlt) (by decide))
                    have fd := HRr.out.frozen pd
                    go_upto_region 35 with (fail)
                    clear cpd pde1 pde2 pde3 pde4
                    obtain ⟨wz, hwz⟩ : ∃ wz, wz = (wq.drewN nq).setCell ⟨RB, pd, none⟩ (.int .u32 (U (xd + (xh + (rotr xe 6 ^^^ rotr xe 11 ^^^ rotr xe 25) + (xg ^^^ xe &&& (xf ^^^ xg)) + kk + ww)))) := ⟨_, rfl⟩
                    rw [← hwz]
                    have HX : Hid (xh + (rotr xe 6 ^^^ rotr xe 11 ^^^ rotr xe 25) + (xg ^^^ xe &&& (xf ^^^ xg)) + kk + ww = tx rs kk ww) := by
                      show _ = _
                      rw [Hxe.out, Hxf.out, Hxg.out, Hxh.out]
                      exact tx_eq rs kk ww
                    have HRz : Hid (Row wz RB 112 (((ring8 rs t).map W).set pd (W (xd + (xh + (rotr xe 6 ^^^ rotr xe 11 ^^^ rotr xe 25) + (xg ^^^ xe &&& (xf ^^^ xg)) + kk + ww))))) := by
                      show Row _ _ _ _
                      rw [hwz]; exact (HRr.out.drewN nq).set pd _
                    have ch : wz.cell? ⟨RB, ph, none⟩ = some (.int .u32 (U xh)) := by
                      have hne : pd ≠ ph := fun e => ndh_aux t hlt (by rw [← hpd.out, ← hph.out]; exact e)
                      rw [HRz.out.cell, List.getElem?_set_ne hne, List.getElem?_map, hph.out, ring8_at rs t 7 (Nat.le_of_lt hlt) (by decide), Hxh.out]
                      rfl
                    have fh := HRz.out.frozen ph
                    have HWz : Hid (Row wz WB 113 ((ring16 M (t + 1)).map W)) := by
                      show Row _ _ _ _
                      rw [hwz]; exact (HWq.out.drewN nq).far (fun e => nwr e.symm) _
                    have HUz : Hid (Upd (fun k => k = RB ∨ k = WB) w4 wz) := by
                      show Upd _ _ _
                      rw [hwz]; exact (RowW.Upd.drewN HUq.out nq).put _ _ (.inl (.inl rfl)) _
                    obtain ⟨X, hX⟩ : ∃ X, X = xh + (rotr xe 6 ^^^ rotr xe 11 ^^^ rotr xe 25) + (xg ^^^ xe &&& (xf ^^^ xg)) + kk + ww := ⟨_, rfl⟩
                    have HX2 : Hid (X = tx rs kk ww) := by show _ = _; rw [hX]; exact HX.out
                    rw [← hX] at HRz ⊢
                    clear hwz fd hX HX HRr HWq HUq HRq
                    go_wp2_with (go_at_call 81; refine (right_w _ _ (by decide) (by decide) _).mono ?_; rintro e w' ⟨rfl, rfl⟩)
                    go_roundw
                    case rel =>
                      refine ⟨t + 1, hlt, by go_num, ?_, HWz.out.far (fun e => nwr e.symm) _, HUz.out.put _ _ (.inl (.inl rfl)) _⟩
                      have e := rounds_step M st t kk ww Hkk.out Hww.out
                      have e1 : (67 - t) % 8 = pd := hpd.out.symm
                      have e2 : (71 - t) % 8 = ph := hph.out.symm
                      have e3 : X + (rotr xa 2 ^^^ rotr xa 13 ^^^ rotr xa 22) + (xa &&& xb ||| xc &&& (xa ||| xb)) = tx rs kk ww + ty rs := by
                        rw [HX2.out, UInt32.add_assoc, Hxa.out, Hxb.out, Hxc.out, ty_eq]
                      have h := HRz.out.set ph (.int .u32 (U (X + (rotr xa 2 ^^^ rotr xa 13 ^^^ rotr xa 22) + (xa &&& xb ||| xc &&& (xa ||| xb)))))
                      rw [e, ← HRS'.out, ← ring8_step rs t (tx rs kk ww) (ty rs) hlt, List.map_set, List.map_set, e1, e2, ← e3, ← HX2.out, ← Hxd.out]
                      exact h
                    case measure => simp [intOf]; omega
                  · have h16I : (t : Int) < 16 := Int.ofNat_lt.2 (Nat.lt_of_not_le h16)
                    obtain ⟨wq, hwq⟩ : ∃ wq, wq = wr := ⟨_, rfl⟩
                    subst hwq
                    have HRq := HRr0
                    have HUq := HUr
                    have HWq : Hid (Row wq WB 113 ((ring16 M (t + 1)).map W)) := by
                      show Row _ _ _ _
                      rw [ring16_small M t (Nat.lt_of_not_le h16)]; exact HWr.out
                    clear HRr0 HWr HUr
                    obtain ⟨rs, hrs⟩ : ∃ rs, rs = rounds M st t := ⟨_, rfl⟩
                    have HRS' := Lib.hid hrs
                    have hR := HRq.out
                    rw [← hrs] at hR
                    have HRr := Lib.hid hR
                    clear hrs
                    obtain ⟨xa, hxa⟩ : ∃ x, x = rs.a := ⟨_, rfl⟩
                    have Hxa := Lib.hid hxa
                    clear hxa
                    obtain ⟨xb, hxb⟩ : ∃ x, x = rs.b := ⟨_, rfl⟩
                    have Hxb := Lib.hid hxb
                    clear hxb
                    obtain ⟨xc, hxc⟩ : ∃ x, x = rs.c := ⟨_, rfl⟩
                    have Hxc := Lib.hid hxc
                    clear hxc
                    obtain ⟨xd, hxd⟩ : ∃ x, x = rs.d := ⟨_, rfl⟩
                    have Hxd := Lib.hid hxd
                    clear hxd
                    obtain ⟨xe, hxe⟩ : ∃ x, x = rs.e := ⟨_, rfl⟩
                    have Hxe := Lib.hid hxe
                    clear hxe
                    obtain ⟨xf, hxf⟩ : ∃ x, x = rs.f := ⟨_, rfl⟩
                    have Hxf := Lib.hid hxf
                    clear hxf
                    obtain ⟨xg, hxg⟩ : ∃ x, x = rs.g := ⟨_, rfl⟩
                    have Hxg := Lib.hid hxg
                    clear hxg
                    obtain ⟨xh, hxh⟩ : ∃ x, x = rs.h := ⟨_, rfl⟩
                    have Hxh := Lib.hid hxh
                    clear hxh
                    obtain ⟨kk, hkk⟩ : ∃ x, x = K.getD t 0 := ⟨_, rfl⟩
                    obtain ⟨ww, hww⟩ : ∃ x, x = RefM.S M t := ⟨_, rfl⟩
                    have Hkk := Lib.hid hkk
                    have Hww := Lib.hid hww
                    clear hkk hww hR
                    obtain ⟨pa, hpa, palt, paltI, pae1, pae2, pae3, pae4⟩ := place8 t 0 hlt (by decide) 64 (by decide)
                    have cpa : wq.cell? ⟨RB, pa, none⟩ = some (.int .u32 (U xa)) := by rw [Hxa.out, hpa.out]; exact wcell HRr.out (ring8_at rs t 0 (Nat.le_of_lt hlt) (by decide))
                    go_upto_region 27 with (fail)
                    clear cpa pae1 pae2 pae3 pae4
                    obtain ⟨pe, hpe, pelt, peltI, pee1, pee2, pee3, pee4⟩ := place8 t 4 hlt (by decide) 68 (by decide)
                    have cpe : wq.cell? ⟨RB, pe, none⟩ = some (.int .u32 (U xe)) := by rw [Hxe.out, hpe.out]; exact wcell HRr.out (ring8_at rs t 4 (Nat.le_of_lt hlt) (by decide))
                    go_upto_region 28 with (fail)
                    clear cpe pee1 pee2 pee3 pee4
                    obtain ⟨pf, hpf, pflt, pfltI, pfe1, pfe2, pfe3, pfe4⟩ := place8 t 5 hlt (by decide) 69 (by decide)
                    have cpf : wq.cell? ⟨RB, pf, none⟩ = some (.int .u32 (U xf)) := by rw [Hxf.out, hpf.out]; exact wcell HRr.out (ring8_at rs t 5 (Nat.le_of_lt hlt) (by decide))
                    go_upto_region 29 with (fail)
                    clear cpf pfe1 pfe2 pfe3 pfe4
                    obtain ⟨pg, hpg, pglt, pgltI, pge1, pge2, pge3, pge4⟩ := place8 t 6 hlt (by decide) 70 (by decide)
                    have cpg : wq.cell? ⟨RB, pg, none⟩ = some (.int .u32 (U xg)) := by rw [Hxg.out, hpg.out]; exact wcell HRr.out (ring8_at rs t 6 (Nat.le_of_lt hlt) (by decide))
                    go_upto_region 30 with (fail)
                    clear cpg pge1 pge2 pge3 pge4
                    obtain ⟨ph, hph, phlt, phltI, phe1, phe2, phe3, phe4⟩ := place8 t 7 hlt (by decide) 71 (by decide)
                    go_upto_region 31 with (fail)
                    clear phe1 phe2 phe3 phe4
                    have cph : wq.cell? ⟨RB, ph, none⟩ = some (.int .u32 (U xh)) := by rw [Hxh.out, hph.out]; exact wcell HRr.out (ring8_at rs t 7 (Nat.le_of_lt hlt) (by decide))
                    obtain ⟨pw, hpw, pwlt, pwltI, pwe1, pwe2, pwe3, pwe4⟩ := place16 t hlt
                    have ck : wq.cell? ⟨w1.heap.size, t, none⟩ = some (.int .u32 (U kk)) := by
                      rw [Hkk.out]
                      exact wcell (HK4.out.upd HUq.out nk) (KN_k t hlt)
                    have cw : wq.cell? ⟨WB, pw, none⟩ = some (.int .u32 (U ww)) := by
                      rw [Hww.out, hpw.out]
                      exact wcell HWq.out (ringw M t hlt)
                    go_quiet ((go_at_call 81; exact Calls.quiet_of_same (right_int _ _ (by decide) (by decide) _)))
                    clear pwe1 pwe2 pwe3 pwe4 ck cw cph
                    obtain ⟨pb, hpb, pblt, pbltI, pbe1, pbe2, pbe3, pbe4⟩ := place8 t 1 hlt (by decide) 65 (by decide)
                    have cpb : (wq.drewN nq).cell? ⟨RB, pb, none⟩ = some (.int .u32 (U xb)) := by rw [Hxb.out, hpb.out]; exact wcell HRr.out (ring8_at rs t 1 (Nat.le_of_lt hlt) (by decide))
                    go_upto_region 33 with (fail)
                    clear cpb pbe1 pbe2 pbe3 pbe4
                    obtain ⟨pc, hpc, pclt, pcltI, pce1, pce2, pce3, pce4⟩ := place8 t 2 hlt (by decide) 66 (by decide)
                    have cpc : (wq.drewN nq).cell? ⟨RB, pc, none⟩ = some (.int .u32 (U xc)) := by rw [Hxc.out, hpc.out]; exact wcell HRr.out (ring8_at rs t 2 (Nat.le_of_lt hlt) (by decide))
                    go_upto_region 34 with (fail)
                    clear cpc pce1 pce2 pce3 pce4
                    obtain ⟨pd, hpd, pdlt, pdltI, pde1, pde2, pde3, pde4⟩ := place8 t 3 hlt (by decide) 67 (by decide)
                    have cpd : (wq.drewN nq).cell? ⟨RB, pd, none⟩ = some (.int .u32 (U xd)) := by rw [Hxd.out, hpd.out]; exact wcell HRr.out (ring8_at rs t 3 (Nat.le_of_lt hlt) (by decide))
                    have fd := HRr.out.frozen pd
                    go_upto_region 35 with (fail)
                    clear cpd pde1 pde2 pde3 pde4
                    obtain ⟨wz, hwz⟩ : ∃ wz, wz = (wq.drewN nq).setCell ⟨RB, pd, none⟩ (.int .u32 (U (xd + (xh + (rotr xe 6 ^^^ rotr xe 11 ^^^ rotr xe 25) + (xg ^^^ xe &&& (xf ^^^ xg)) + kk + ww)))) := ⟨_, rfl⟩
                    rw [← hwz]
                    have HX : Hid (xh + (rotr xe 6 ^^^ rotr xe 11 ^^^ rotr xe 25) + (xg ^^^ xe &&& (xf ^^^ xg)) + kk + ww = tx rs kk ww) := by
                      show _ = _
                      rw [Hxe.out, Hxf.out, Hxg.out, Hxh.out]
                      exact tx_eq rs kk ww
                    have HRz : Hid (Row wz RB 112 (((ring8 rs t).map W).set pd (W (xd + (xh + (rotr xe 6 ^^^ rotr xe 11 ^^^ rotr xe 25) + (xg ^^^ xe &&& (xf ^^^ xg)) + kk + ww))))) := by
                      show Row _ _ _ _
                      rw [hwz]; exact (HRr.out.drewN nq).set pd _
                    have ch : wz.cell? ⟨RB, ph, none⟩ = some (.int .u32 (U xh)) := by
                      have hne : pd ≠ ph := fun e => ndh_aux t hlt (by rw [← hpd.out, ← hph.out]; exact e)
                      rw [HRz.out.cell, List.getElem?_set_ne hne, List.getElem?_map, hph.out, ring8_at rs t 7 (Nat.le_of_lt hlt) (by decide), Hxh.out]
                      rfl
                    have fh := HRz.out.frozen ph
                    have HWz : Hid (Row wz WB 113 ((ring16 M (t + 1)).map W)) := by
                      show Row _ _ _ _
                      rw [hwz]; exact (HWq.out.drewN nq).far (fun e => nwr e.symm) _
                    have HUz : Hid (Upd (fun k => k = RB ∨ k = WB) w4 wz) := by
                      show Upd _ _ _
                      rw [hwz]; exact (RowW.Upd.drewN HUq.out nq).put _ _ (.inl (.inl rfl)) _
                    obtain ⟨X, hX⟩ : ∃ X, X = xh + (rotr xe 6 ^^^ rotr xe 11 ^^^ rotr xe 25) + (xg ^^^ xe &&& (xf ^^^ xg)) + kk + ww := ⟨_, rfl⟩
                    have HX2 : Hid (X = tx rs kk ww) := by show _ = _; rw [hX]; exact HX.out
                    rw [← hX] at HRz ⊢
                    clear hwz fd hX HX HRr HWq HUq HRq
                    go_wp2_with (go_at_call 81; refine (right_w _ _ (by decide) (by decide) _).mono ?_; rintro e w' ⟨rfl, rfl⟩)
                    go_roundw
                    case rel =>
                      refine ⟨t + 1, hlt, by go_num, ?_, HWz.out.far (fun e => nwr e.symm) _, HUz.out.put _ _ (.inl (.inl rfl)) _⟩
                      have e := rounds_step M st t kk ww Hkk.out Hww.out
                      have e1 : (67 - t) % 8 = pd := hpd.out.symm
                      have e2 : (71 - t) % 8 = ph := hph.out.symm
                      have e3 : X + (rotr xa 2 ^^^ rotr xa 13 ^^^ rotr xa 22) + (xa &&& xb ||| xc &&& (xa ||| xb)) = tx rs kk ww + ty rs := by
                        rw [HX2.out, UInt32.add_assoc, Hxa.out, Hxb.out, Hxc.out, ty_eq]
                      have h := HRz.out.set ph (.int .u32 (U (X + (rotr xa 2 ^^^ rotr xa 13 ^^^ rotr xa 22) + (xa &&& xb ||| xc &&& (xa ||| xb)))))
                      rw [e, ← HRS'.out, ← ring8_step rs t (tx rs kk ww) (ty rs) hlt, List.map_set, List.map_set, e1, e2, ← e3, ← HX2.out, ← Hxd.out]
                      exact h
                    case measure => simp [intOf]; omega
                · obtain rfl : t = 64 := by omega
                  rw [show ((64 : Nat) : Int) = 64 from rfl]
                  clear ht hlt
                  obtain ⟨rr, hrr⟩ : ∃ rr, rr = rounds M st 64 := ⟨_, rfl⟩
                  have HRR := Lib.hid hrr
                  obtain ⟨w5, hw5⟩ : ∃ w5, w5 = wr := ⟨_, rfl⟩
                  subst hw5
                  have HR5 : Hid (Row w5 RB 112 ((ws rr).map W)) := by
                    have h := HRr0.out
                    rw [ring8_end, ← hrr] at h
                    exact h
                  have hsrw : ¬ (SB = RB ∨ SB = WB) := by omega
                  have HS5 : Hid (L5 SB st rr w5 (.int .i64 0) w5) := ⟨0, by omega, rfl, by rw [ssub_zero]; exact HS4.out.upd HUr.out hsrw, Upd.refl _ _⟩
                  have HU5 : Hid (Upd (fun k => k = SB) wS w5) := HU4.out.trans (HUr.out.mono (fun k _ e => .inr (by omega)))
                  clear hrr HRr0 HWr HUr
                  go_wp2
                  go_loopw [22] (fun i wr => L5 SB st rr w5 i wr) (fun i _ => (8 - intOf i).toNat)
                  case atStart => exact HS5.out
                  case round =>
                    clear HS5
                    obtain ⟨j, hj, rfl, hrow, hu⟩ := hrel
                    have HR := Lib.hid hrow
                    have HU := Lib.hid hu
                    clear hrow hu
                    by_cases hlt : j < 8
                    · have hltI : (j : Int) < 8 := by omega
                      obtain ⟨x, hx⟩ : ∃ x, x = (ws st).getD j 0 := ⟨_, rfl⟩
                      obtain ⟨y, hy⟩ : ∃ y, y = (ws rr).getD j 0 := ⟨_, rfl⟩
                      have c0 : wr.cell? ⟨SB, j, none⟩ = some (.int .u32 (U x)) := by rw [hx]; exact wcell HR.out (ssub_at st rr j hlt)
                      have c1 : wr.cell? ⟨RB, j, none⟩ = some (.int .u32 (U y)) := by
                        rw [hy]
                        refine wcell (HR5.out.upd HU.out (by omega)) ?_
                        rw [List.getD_eq_getElem?_getD, List.getElem?_eq_getElem (show j < (ws rr).length from hlt)]
                        rfl
                      have f0 := HR.out.frozen j
                      have Hx := Lib.hid hx
                      have Hy := Lib.hid hy
                      clear hx hy
                      go_wp2
                      go_still_tail 9, (by kernel_rfl)
                      repeat still_step
                      (try refine wpStill_nil ?_)
                      change wpList _ _ _ _ _ wr.drew
                      go_wp2
                      go_roundw
                      case rel =>
                        refine ⟨j + 1, by omega, by go_num, ?_, (HU.out.put _ _ (.inl rfl) _).drew⟩
                        rw [← ssub_set st rr j hlt, List.map_set, ← Hx.out, ← Hy.out]
                        exact (HR.out.set j _).drew
                      case measure => simp [intOf]; omega
                    · obtain rfl : j = 8 := by omega
                      rw [show ((8 : Nat) : Int) = 8 from rfl]
                      clear hj hlt
                      have HF : Hid (Row wr SB 112 ((ws (blocks init (m + 1) (pad l))).map W)) := by
                        show Row _ _ _ _
                        have hpl : 64 * (m + 1) ≤ (pad l).length := by rw [pad_len, ← Hn.out, ← HN.out]; have := HP.out; omega
                        have h := HR.out
                        rw [ssub_end, HRR.out] at h
                        rw [blocks_step _ _ hpl, ← HM.out, ← HST.out]
                        exact h
                      have HUf : Hid (Upd (fun k => k = SB) wS wr) := HU5.out.trans (HU.out.mono (fun k _ e => .inl e))
                      clear HR HU
                      go_wp2
                      go_roundw
                      case rel => exact ⟨m + 1, by have := HP.out; omega, congrArg (Value.int .i64) (by have := HP.out; omega), HF.out, HUf.out⟩
                      case measure => simp [intOf]; omega
        · have hmN : 64 * m = N := by omega
          obtain ⟨st, hst⟩ : ∃ st, st = blocks init m (pad l) := ⟨_, rfl⟩
          have HO : Hid (sha l = out st) := by
            show _ = _
            have e : (pad l).length / 64 = m := by rw [pad_len, ← Hn.out, ← HN.out, ← hmN]; omega
            rw [hst, ← e]; rfl
          have HRs : Hid (Row wr SB 112 ((ws st).map W)) := by show Row _ _ _ _; rw [hst]; exact HR.out
          clear hst
          obtain ⟨wo, hwo⟩ : ∃ wo, wo = wr := ⟨_, rfl⟩
          subst hwo
          obtain ⟨DB, hDB⟩ : ∃ DB, DB = wo.heap.size := ⟨_, rfl⟩
          obtain ⟨w6, hw6⟩ : ∃ w6, w6 = wo.alloc (.cells AD 23) := ⟨_, rfl⟩
          have hsd : SB < DB := by rw [hDB]; exact HR.out.lt
          have hws6 : wS.heap.size ≤ DB := by rw [hDB]; exact HU.out.size
          have HS6 : Hid (Row w6 SB 112 ((ws st).map W)) := by show Row _ _ _ _; rw [hw6]; exact HRs.out.alloc _
          have HU6 : Hid (Upd (fun k => k = SB) wS w6) := by show Upd _ _ _; rw [hw6]; exact HU.out.alloc _
          have HL6 : Hid (L6 DB st w6 (.int .i64 0) w6) := ⟨0, by omega, rfl, by rw [hw6, hDB]; exact Row.new _ _ _, Upd.refl _ _⟩
          obtain ⟨p, hp⟩ : ∃ p, p = 64 * m := ⟨_, rfl⟩
          have hpI : ¬ (p : Int) < (N : Int) := by omega
          rw [← hp]
          clear hp hmN
          go_wp2
          rw [← hDB, ← hw6]
          clear hDB hw6 HR HU HRs hz hz8 hz16
          go_loopw [24] (fun i wr => L6 DB st w6 i wr) (fun i _ => (32 - intOf i).toNat)
          case atStart => exact HL6.out
          case round =>
            clear HL6
            obtain ⟨i, hi, rfl, hrow, hu⟩ := hrel
            have HR := Lib.hid hrow
            have HU := Lib.hid hu
            clear hrow hu
            by_cases hlt : i < 32
            · have hltI : (i : Int) < 32 := by omega
              obtain ⟨a, ha⟩ : ∃ a, a = i / 4 := ⟨_, rfl⟩
              have haI : (a : Int) < 8 := by omega
              have han : a < 8 := by omega
              have e1 : (i : Int) / 4 = (a : Int) := by omega
              have e2 : (i : Int).tdiv 4 = (a : Int) := by rw [Int.tdiv_eq_ediv_of_nonneg (by omega)]; exact e1
              obtain ⟨x, hx⟩ : ∃ x, x = (ws st).getD a 0 := ⟨_, rfl⟩
              have c0 : wr.cell? ⟨SB, a, none⟩ = some (.int .u32 (U x)) := by
                rw [hx]
                refine wcell (HS6.out.upd HU.out (by omega)) ?_
                rw [List.getD_eq_getElem?_getD, List.getElem?_eq_getElem (show a < (ws st).length from han)]
                rfl
              have c1 : wr.cell? ⟨DB, i, none⟩ = some (Mem.u8 ((osb st i).getD i 0)) := by
                have hl : i < (osb st i).length := by simp [osb, out_len]; omega
                rw [HR.out.cell, List.getElem?_map, List.getD_eq_getElem?_getD, List.getElem?_eq_getElem hl]
                rfl
              have f1 := HR.out.frozen i
              have Hx := Lib.hid hx
              have Ha : Hid (a = i / 4) := ha
              clear hx ha
              by_cases hb0 : i % 4 = 0
              · have e3 : (i : Int) % 4 = 0 := by omega
                have e4 : (i : Int).tmod 4 = 0 := by rw [Int.tmod_eq_emod_of_nonneg (by omega)]; exact e3
                have Hb : Hid (i = 4 * a + 0) := by show _ = _; have := Ha.out; omega
                clear hb0
                go_wp2
                go_roundw
                case rel =>
                  rw [v_bx]
                  refine ⟨i + 1, by omega, by go_num, ?_, HU.out.put _ _ (.inl rfl) _⟩
                  rw [← osb_set st i hlt, List.map_set]
                  have e5 : (out st).getD i 0 = bx x 24 := by rw [Hb.out, out_at st a 0 han (by decide), ← Hx.out]; first | rfl | (simp [b0]; done)
                  rw [e5]
                  exact HR.out.set i _
                case measure => simp [intOf]; omega
              by_cases hb1 : i % 4 = 1
              · have e3 : (i : Int) % 4 = 1 := by omega
                have e4 : (i : Int).tmod 4 = 1 := by rw [Int.tmod_eq_emod_of_nonneg (by omega)]; exact e3
                have Hb : Hid (i = 4 * a + 1) := by show _ = _; have := Ha.out; omega
                clear hb1
                go_wp2
                go_roundw
                case rel =>
                  rw [v_bx]
                  refine ⟨i + 1, by omega, by go_num, ?_, HU.out.put _ _ (.inl rfl) _⟩
                  rw [← osb_set st i hlt, List.map_set]
                  have e5 : (out st).getD i 0 = bx x 16 := by rw [Hb.out, out_at st a 1 han (by decide), ← Hx.out]; first | rfl | (simp [b0]; done)
                  rw [e5]
                  exact HR.out.set i _
                case measure => simp [intOf]; omega
              by_cases hb2 : i % 4 = 2
              · have e3 : (i : Int) % 4 = 2 := by omega
                have e4 : (i : Int).tmod 4 = 2 := by rw [Int.tmod_eq_emod_of_nonneg (by omega)]; exact e3
                have Hb : Hid (i = 4 * a + 2) := by show _ = _; have := Ha.out; omega
                clear hb2
                go_wp2
                go_roundw
                case rel =>
                  rw [v_bx]
                  refine ⟨i + 1, by omega, by go_num, ?_, HU.out.put _ _ (.inl rfl) _⟩
                  rw [← osb_set st i hlt, List.map_set]
                  have e5 : (out st).getD i 0 = bx x 8 := by rw [Hb.out, out_at st a 2 han (by decide), ← Hx.out]; first | rfl | (simp [b0]; done)
                  rw [e5]
                  exact HR.out.set i _
                case measure => simp [intOf]; omega
              by_cases hb3 : i % 4 = 3
              · have e3 : (i : Int) % 4 = 3 := by omega
                have e4 : (i : Int).tmod 4 = 3 := by rw [Int.tmod_eq_emod_of_nonneg (by omega)]; exact e3
                have Hb : Hid (i = 4 * a + 3) := by show _ = _; have := Ha.out; omega
                clear hb3
                go_wp2
                go_roundw
                case rel =>
                  rw [v_b0]
                  refine ⟨i + 1, by omega, by go_num, ?_, HU.out.put _ _ (.inl rfl) _⟩
                  rw [← osb_set st i hlt, List.map_set]
                  have e5 : (out st).getD i 0 = b0 x := by rw [Hb.out, out_at st a 3 han (by decide), ← Hx.out]; first | rfl | (simp [b0]; done)
                  rw [e5]
                  exact HR.out.set i _
                case measure => simp [intOf]; omega
              exact absurd (Nat.mod_lt i (by decide : 0 < 4)) (by omega)
            · obtain rfl : i = 32 := by omega
              rw [show ((32 : Nat) : Int) = 32 from rfl]
              have HG : Hid (wr.heap[DB]? = some (.cells Y 23 (0, 0))) := by
                have h := HR.out
                show _ = _
                rw [HY.out, HO.out]
                unfold osb at h
                rw [Nat.sub_self, List.replicate_zero, List.append_nil, List.take_of_length_le (by rw [out_len]; omega)] at h
                exact h
              have HG0 : Hid (wr.heap[w.heap.size]? = some (.cells AD 23 (0, 0))) := by
                show _ = _
                rw [HU.out.block _ (by have := HU6.out.size; omega) (by omega), HU6.out.block _ (by omega) (by omega)]
                exact HRS.out
              have HUf : Hid (Upd (fun _ => False) w wr) := (HUS.out.trans (HU6.out.mono (fun k _ e => .inr (by omega)))).trans (HU.out.mono (fun k _ e => .inr (by omega)))
              clear HR HU hlt hi
              go_wp2_with (first
                | ((with_reducible refine wpList_load_row (o := ⟨some 241, _, _, _, _, _⟩) ?_ _ (.tmp 23) ?_ DB ?_ 23 Y (0, 0) _ HG.out Tryd.underlying23 ?_ HYs.out ?_); rfl; rfl; rfl; rfl)
                | ((with_reducible refine wpList_store_new (o := ⟨none, .store 23 (.tmp 2) (.tmp 241), _, _, _, _⟩) ?_ _ (.tmp 2) (.tmp 241) ?_ w.heap.size Y ?_ ?_ 23 AD HG0.out HYs.out HYl.out HY1.out ?_); rfl; rfl; rfl; rfl; intro w7 Hg7 Hu7))
              refine bodyPost_ret (results_cell_row rfl _ _ w.heap.size 23 Y (0, 0) _ rfl Hg7.out Tryd.underlying23 rfl HYs.out) rfl ?_
              exact ⟨by rw [← HY.out], HUf.out.trans (Hu7.out.mono (fun k hk e => .inr (by omega)))⟩

end Go.Proofs.YtgcionimhmbgeaaDoorR.RefW3
