/-
  digest.mix: one block into the state.
-/
import Derived.Test.YtgcionimhmbgeaaDoorRSpreadW
namespace Go.Proofs.YtgcionimhmbgeaaDoorR.MixW
open Go.RowKit Sha TurnW Mem RowW SpreadW
set_option linter.unusedVariables false

/-- roundWords reads as K -/
def Kw (w : World) : Prop := ∀ t, t < 64 → w.cell? ⟨2, t, none⟩ = some (.int .u32 (U (K.getD t 0)))
theorem Kw.upd {S : Nat → Prop} {w w' : World} (h : Kw w) (hu : Upd S w w') (hs : ¬ S 2) : Kw w' := fun t ht => hu.cell (h t ht) hs
theorem Kw.drewN {w : World} (h : Kw w) (n : Nat) : Kw (w.drewN n) := h

theorem u_not (x : UInt32) : bits .xor .u32 (if IntKind.u32.signed = true then -1 else IntKind.u32.max) (U x) = U (~~~ x) := by
  have e : (if IntKind.u32.signed = true then (-1 : Int) else IntKind.u32.max) = U 4294967295 := by decide
  rw [e, u_xor]
  congr 1
attribute [local go_sem] u_not

structure MixI (g b : Nat) (T : TypeId) (w0 : World) (X : Array Value) (cs : List Value) (wr : World) : Prop where
  row : wr.heap[g]? = some (.cells X 141 (0, 0))
  kw : Kw wr
  st : Row wr b T cs
  upd : Upd (fun _ => False) w0 wr
theorem MixI.drewN {g b : Nat} {T : TypeId} {w0 wr : World} {X : Array Value} {cs : List Value} (h : MixI g b T w0 X cs wr) (n : Nat) : MixI g b T w0 X cs (wr.drewN n) := ⟨h.row, h.kw, h.st, Upd.drewN h.upd n⟩

theorem words (m : List UInt8) (t : Nat) (ht : t < 64) : (((sched m 48).map W).toArray)[t]? = some (.int .u32 (U ((sched m 48).getD t 0))) := by
  have h : t < (sched m 48).length := by rw [sched_len]; omega
  rw [List.getElem?_toArray, List.getElem?_map, List.getD_eq_getElem?_getD, List.getElem?_eq_getElem h]
  rfl

def L1 (B b : Nat) (T : TypeId) (w0 : World) (m : List UInt8) (st : St) (cs : List Value) (i a5 a6 a7 a8 a9 a10 a11 a12 : Value) (wr : World) : Prop :=
  ∃ (t : Nat), t ≤ 64 ∧ i = .int .i64 t ∧ a5 = W (rounds m st t).a ∧ a6 = W (rounds m st t).b ∧ a7 = W (rounds m st t).c ∧ a8 = W (rounds m st t).d ∧
    a9 = W (rounds m st t).e ∧ a10 = W (rounds m st t).f ∧ a11 = W (rounds m st t).g ∧ a12 = W (rounds m st t).h ∧ MixI B b T w0 ((sched m 48).map W).toArray cs wr

def part (st s : St) (j : Nat) : List UInt32 := (ws (st.add s)).take j ++ (ws st).drop j
def L2 (b : Nat) (T : TypeId) (w0 : World) (st s : St) (rest : List Value) (i : Value) (wr : World) : Prop :=
  ∃ j : Nat, j ≤ 8 ∧ i = .int .i64 j ∧ Row wr b T ((part st s j).map W ++ rest) ∧ Upd (fun k => k = b) w0 wr

set_option maxHeartbeats 4000000 in
set_option maxRecDepth 100000 in
theorem mix_any (b : Nat) (T : TypeId) (st : St) (rest : List Value) (c o cap : Nat) (m : List UInt8) (w : World) (hr : Row w b T ((ws st).map W ++ rest))
    (hm : Sl w (.slice (some ⟨c, o, none⟩) 64 cap) m) (hl : m.length = 64) (hk : Kw w) (hb : b ≠ 2) :
    Calls Tryd.prog 101 #[.pointer (some ⟨b, 0, none⟩), .slice (some ⟨c, o, none⟩) 64 cap] w fun e w' => e = .returned (.tuple #[]) ∧ Row w' b T ((ws (mix st m)).map W ++ rest) ∧ Upd (fun k => k = b) w w' := by
  have Hr := Lib.hid hr
  have Hm := Lib.hid hm
  have Hl := Lib.hid hl
  have Hk := Lib.hid hk
  have Hb := Lib.hid hb
  clear hr hm hl hk hb
  obtain ⟨X, hX⟩ : ∃ X, X = ((sched m 48).map W).toArray := ⟨_, rfl⟩
  have hs : Hid ((Tryd.prog.info? 141).map (·.size) = some X.size) := by
    show _ = _
    rw [size64, hX]; simp [sched_len]
  have h1 : Hid (X.all (·.oneCell') = true) := by
    show _ = _
    rw [hX]; simp [W, Value.oneCell']
  have HX := Lib.hid hX
  clear hX
  go_enter Tryd.func101, Tryd.ntmps101
  go_wp2_with (first
    | (go_at_call 104; refine (spread_any _ _ _ m _ Hl.out Hm.out).mono ?_; rintro e w1 ⟨rfl, hu1⟩; have Hu1 := Lib.hid hu1; clear hu1; rw [← HX.out])
    | ((with_reducible refine wpList_store_new (o := ⟨none, .store 141 (.tmp 4) (.tmp 19), _, _, _, _⟩) ?_ _ (.tmp 4) (.tmp 19) ?_ w1.heap.size X ?_ ?_ 141 _ (heap_alloc_new _ _) hs.out ?_ h1.out ?_); rfl; rfl; rfl; rfl; (rw [HX.out]; simp [sched_len]); intro w2 Hg2 Hu2))
  have hu2 : Upd (fun _ => False) w w2 := (Hu1.out.alloc _).trans (Hu2.out.mono (fun k hk e => .inr (by have := Hu1.out.size; omega)))
  have HI : Hid (MixI w1.heap.size b T w X ((ws st).map W ++ rest) w2) := ⟨Hg2.out, Hk.out.upd hu2 id, Hr.out.upd hu2 id, hu2⟩
  have HB : Hid (w.heap.size ≤ w1.heap.size) := Hu1.out.size
  clear Hu2 Hu1 Hg2 hu2
  have s0 : w2.cell? ⟨b, 0, none⟩ = some (.int .u32 (U st.a)) := HI.out.st.cell 0
  have s1 : w2.cell? ⟨b, 1, none⟩ = some (.int .u32 (U st.b)) := HI.out.st.cell 1
  have s2 : w2.cell? ⟨b, 2, none⟩ = some (.int .u32 (U st.c)) := HI.out.st.cell 2
  have s3 : w2.cell? ⟨b, 3, none⟩ = some (.int .u32 (U st.d)) := HI.out.st.cell 3
  have s4 : w2.cell? ⟨b, 4, none⟩ = some (.int .u32 (U st.e)) := HI.out.st.cell 4
  have s5 : w2.cell? ⟨b, 5, none⟩ = some (.int .u32 (U st.f)) := HI.out.st.cell 5
  have s6 : w2.cell? ⟨b, 6, none⟩ = some (.int .u32 (U st.g)) := HI.out.st.cell 6
  have s7 : w2.cell? ⟨b, 7, none⟩ = some (.int .u32 (U st.h)) := HI.out.st.cell 7
  go_wp2
  go_quiet (fail)
  clear s0 s1 s2 s3 s4 s5 s6 s7
  go_wp2
  go_loopw [52, 5, 6, 7, 8, 9, 10, 11, 12] (fun i a5 a6 a7 a8 a9 a10 a11 a12 wr => L1 w1.heap.size b T w m st ((ws st).map W ++ rest) i a5 a6 a7 a8 a9 a10 a11 a12 wr) (fun i _ _ _ _ _ _ _ _ _ => (64 - intOf i).toNat)
  case atStart => exact ⟨0, by omega, rfl, rfl, rfl, rfl, rfl, rfl, rfl, rfl, rfl, HX.out ▸ HI.out.drewN _⟩
  case round =>
    obtain ⟨t, ht, rfl, rfl, rfl, rfl, rfl, rfl, rfl, rfl, rfl, hi⟩ := hrel
    have Hi := Lib.hid hi
    clear hi
    obtain ⟨s, hs⟩ : ∃ s, s = rounds m st t := ⟨_, rfl⟩
    rw [← hs]
    have HS := Lib.hid hs
    clear hs
    simp only [W]
    by_cases hlt : t < 64
    · have ht64 : (t : Int) < 64 := by omega
      have k0 := Hi.out.kw t hlt
      have x0 : wr.cell? ⟨w1.heap.size, t, none⟩ = some (.int .u32 (U ((sched m 48).getD t 0))) := by rw [cell_of_row _ _ _ _ _ _ Hi.out.row]; exact words m t hlt
      obtain ⟨kt, hkt⟩ : ∃ y, y = K.getD t 0 := ⟨_, rfl⟩
      obtain ⟨xt, hxt⟩ : ∃ y, y = (sched m 48).getD t 0 := ⟨_, rfl⟩
      rw [← hkt] at k0
      rw [← hxt] at x0
      have HK := Lib.hid hkt
      have HXT := Lib.hid hxt
      clear hkt hxt
      go_wp2
      go_quiet ((go_at_call 105; exact Calls.quiet_of_same (turn_any _ _ (by simp [Turns]) _)))
      go_wp2_with (go_at_call 105; refine (turn_any _ _ (by simp [Turns]) _).mono ?_; rintro e w' ⟨rfl, rfl⟩)
      go_roundw
      case rel =>
        have HN : Hid (rounds m st (t + 1) = round s kt xt) := by
          show round _ _ _ = _
          rw [HK.out, HXT.out, HS.out]
        exact ⟨t + 1, by omega, by go_num, by rw [HN.out]; rfl, by rw [HN.out]; rfl, by rw [HN.out]; rfl, by rw [HN.out]; rfl, by rw [HN.out]; rfl, by rw [HN.out]; rfl, by rw [HN.out]; rfl, by rw [HN.out]; rfl, Hi.out.drewN _⟩
      case measure => simp [intOf]; omega
    · obtain rfl : t = 64 := by omega
      rw [show ((64 : Nat) : Int) = 64 from rfl]
      clear ht hlt
      go_wp2
      have HR := Lib.hid Hi.out.st
      have HU := Lib.hid (Hi.out.upd.mono (T := fun k => k = b) (fun _ _ h => h.elim))
      clear Hi
      have HM : Hid (mix st m = st.add s) := by
        show st.add _ = _
        rw [HS.out]
      clear HS
      go_loopw [124] (fun i wr => L2 b T w st s rest i wr) (fun i _ => (8 - intOf i).toNat)
      case atStart => exact ⟨0, by omega, rfl, HR.out, HU.out⟩
      case round =>
        clear HR HU
        obtain ⟨j, hj, rfl, hr, hu⟩ := hrel
        by_cases hlt : j < 8
        · have hjs : j = 0 ∨ j = 1 ∨ j = 2 ∨ j = 3 ∨ j = 4 ∨ j = 5 ∨ j = 6 ∨ j = 7 := by omega
          clear hlt hj
          rcases hjs with rfl | rfl | rfl | rfl | rfl | rfl | rfl | rfl
          · have c0 : wr.cell? ⟨b, 0, none⟩ = some (.int .u32 (U st.a)) := hr.cell 0
            have f0 := hr.frozen 0
            have HR : Hid (Row (wr.drew.setCell ⟨b, 0, none⟩ (.int .u32 (U (st.a + s.a)))) b T ((part st s (0 + 1)).map W ++ rest)) := hr.drew.set 0 _
            have HU : Hid (Upd (fun k => k = b) w (wr.drew.setCell ⟨b, 0, none⟩ (.int .u32 (U (st.a + s.a))))) := hu.drew.put b 0 (.inl rfl) _
            clear hr hu
            rw [show ((0 : Nat) : Int) = 0 from rfl]
            have ix : ∀ w, (Instr.index 112 (.agg #[.int .u32 (U s.a), .int .u32 (U s.b), .int .u32 (U s.c), .int .u32 (U s.d), .int .u32 (U s.e), .int .u32 (U s.f), .int .u32 (U s.g), .int .u32 (U s.h)]) (.int .i64 0)).run Tryd.prog w = .ok (.int .u32 (U s.a)) w := fun _ => by kernel_rfl
            go_wp2
            go_region
            go_wp2
            go_roundw
            case rel => exact ⟨0 + 1, by omega, rfl, HR.out, HU.out⟩
            case measure => simp [intOf]
          · have c0 : wr.cell? ⟨b, 1, none⟩ = some (.int .u32 (U st.b)) := hr.cell 1
            have f0 := hr.frozen 1
            have HR : Hid (Row (wr.drew.setCell ⟨b, 1, none⟩ (.int .u32 (U (st.b + s.b)))) b T ((part st s (1 + 1)).map W ++ rest)) := hr.drew.set 1 _
            have HU : Hid (Upd (fun k => k = b) w (wr.drew.setCell ⟨b, 1, none⟩ (.int .u32 (U (st.b + s.b))))) := hu.drew.put b 1 (.inl rfl) _
            clear hr hu
            rw [show ((1 : Nat) : Int) = 1 from rfl]
            have ix : ∀ w, (Instr.index 112 (.agg #[.int .u32 (U s.a), .int .u32 (U s.b), .int .u32 (U s.c), .int .u32 (U s.d), .int .u32 (U s.e), .int .u32 (U s.f), .int .u32 (U s.g), .int .u32 (U s.h)]) (.int .i64 1)).run Tryd.prog w = .ok (.int .u32 (U s.b)) w := fun _ => by kernel_rfl
            go_wp2
            go_region
            go_wp2
            go_roundw
            case rel => exact ⟨1 + 1, by omega, rfl, HR.out, HU.out⟩
            case measure => simp [intOf]
          · have c0 : wr.cell? ⟨b, 2, none⟩ = some (.int .u32 (U st.c)) := hr.cell 2
            have f0 := hr.frozen 2
            have HR : Hid (Row (wr.drew.setCell ⟨b, 2, none⟩ (.int .u32 (U (st.c + s.c)))) b T ((part st s (2 + 1)).map W ++ rest)) := hr.drew.set 2 _
            have HU : Hid (Upd (fun k => k = b) w (wr.drew.setCell ⟨b, 2, none⟩ (.int .u32 (U (st.c + s.c))))) := hu.drew.put b 2 (.inl rfl) _
            clear hr hu
            rw [show ((2 : Nat) : Int) = 2 from rfl]
            have ix : ∀ w, (Instr.index 112 (.agg #[.int .u32 (U s.a), .int .u32 (U s.b), .int .u32 (U s.c), .int .u32 (U s.d), .int .u32 (U s.e), .int .u32 (U s.f), .int .u32 (U s.g), .int .u32 (U s.h)]) (.int .i64 2)).run Tryd.prog w = .ok (.int .u32 (U s.c)) w := fun _ => by kernel_rfl
            go_wp2
            go_region
            go_wp2
            go_roundw
            case rel => exact ⟨2 + 1, by omega, rfl, HR.out, HU.out⟩
            case measure => simp [intOf]
          · have c0 : wr.cell? ⟨b, 3, none⟩ = some (.int .u32 (U st.d)) := hr.cell 3
            have f0 := hr.frozen 3
            have HR : Hid (Row (wr.drew.setCell ⟨b, 3, none⟩ (.int .u32 (U (st.d + s.d)))) b T ((part st s (3 + 1)).map W ++ rest)) := hr.drew.set 3 _
            have HU : Hid (Upd (fun k => k = b) w (wr.drew.setCell ⟨b, 3, none⟩ (.int .u32 (U (st.d + s.d))))) := hu.drew.put b 3 (.inl rfl) _
            clear hr hu
            rw [show ((3 : Nat) : Int) = 3 from rfl]
            have ix : ∀ w, (Instr.index 112 (.agg #[.int .u32 (U s.a), .int .u32 (U s.b), .int .u32 (U s.c), .int .u32 (U s.d), .int .u32 (U s.e), .int .u32 (U s.f), .int .u32 (U s.g), .int .u32 (U s.h)]) (.int .i64 3)).run Tryd.prog w = .ok (.int .u32 (U s.d)) w := fun _ => by kernel_rfl
            go_wp2
            go_region
            go_wp2
            go_roundw
            case rel => exact ⟨3 + 1, by omega, rfl, HR.out, HU.out⟩
            case measure => simp [intOf]
          · have c0 : wr.cell? ⟨b, 4, none⟩ = some (.int .u32 (U st.e)) := hr.cell 4
            have f0 := hr.frozen 4
            have HR : Hid (Row (wr.drew.setCell ⟨b, 4, none⟩ (.int .u32 (U (st.e + s.e)))) b T ((part st s (4 + 1)).map W ++ rest)) := hr.drew.set 4 _
            have HU : Hid (Upd (fun k => k = b) w (wr.drew.setCell ⟨b, 4, none⟩ (.int .u32 (U (st.e + s.e))))) := hu.drew.put b 4 (.inl rfl) _
            clear hr hu
            rw [show ((4 : Nat) : Int) = 4 from rfl]
            have ix : ∀ w, (Instr.index 112 (.agg #[.int .u32 (U s.a), .int .u32 (U s.b), .int .u32 (U s.c), .int .u32 (U s.d), .int .u32 (U s.e), .int .u32 (U s.f), .int .u32 (U s.g), .int .u32 (U s.h)]) (.int .i64 4)).run Tryd.prog w = .ok (.int .u32 (U s.e)) w := fun _ => by kernel_rfl
            go_wp2
            go_region
            go_wp2
            go_roundw
            case rel => exact ⟨4 + 1, by omega, rfl, HR.out, HU.out⟩
            case measure => simp [intOf]
          · have c0 : wr.cell? ⟨b, 5, none⟩ = some (.int .u32 (U st.f)) := hr.cell 5
            have f0 := hr.frozen 5
            have HR : Hid (Row (wr.drew.setCell ⟨b, 5, none⟩ (.int .u32 (U (st.f + s.f)))) b T ((part st s (5 + 1)).map W ++ rest)) := hr.drew.set 5 _
            have HU : Hid (Upd (fun k => k = b) w (wr.drew.setCell ⟨b, 5, none⟩ (.int .u32 (U (st.f + s.f))))) := hu.drew.put b 5 (.inl rfl) _
            clear hr hu
            rw [show ((5 : Nat) : Int) = 5 from rfl]
            have ix : ∀ w, (Instr.index 112 (.agg #[.int .u32 (U s.a), .int .u32 (U s.b), .int .u32 (U s.c), .int .u32 (U s.d), .int .u32 (U s.e), .int .u32 (U s.f), .int .u32 (U s.g), .int .u32 (U s.h)]) (.int .i64 5)).run Tryd.prog w = .ok (.int .u32 (U s.f)) w := fun _ => by kernel_rfl
            go_wp2
            go_region
            go_wp2
            go_roundw
            case rel => exact ⟨5 + 1, by omega, rfl, HR.out, HU.out⟩
            case measure => simp [intOf]
          · have c0 : wr.cell? ⟨b, 6, none⟩ = some (.int .u32 (U st.g)) := hr.cell 6
            have f0 := hr.frozen 6
            have HR : Hid (Row (wr.drew.setCell ⟨b, 6, none⟩ (.int .u32 (U (st.g + s.g)))) b T ((part st s (6 + 1)).map W ++ rest)) := hr.drew.set 6 _
            have HU : Hid (Upd (fun k => k = b) w (wr.drew.setCell ⟨b, 6, none⟩ (.int .u32 (U (st.g + s.g))))) := hu.drew.put b 6 (.inl rfl) _
            clear hr hu
            rw [show ((6 : Nat) : Int) = 6 from rfl]
            have ix : ∀ w, (Instr.index 112 (.agg #[.int .u32 (U s.a), .int .u32 (U s.b), .int .u32 (U s.c), .int .u32 (U s.d), .int .u32 (U s.e), .int .u32 (U s.f), .int .u32 (U s.g), .int .u32 (U s.h)]) (.int .i64 6)).run Tryd.prog w = .ok (.int .u32 (U s.g)) w := fun _ => by kernel_rfl
            go_wp2
            go_region
            go_wp2
            go_roundw
            case rel => exact ⟨6 + 1, by omega, rfl, HR.out, HU.out⟩
            case measure => simp [intOf]
          · have c0 : wr.cell? ⟨b, 7, none⟩ = some (.int .u32 (U st.h)) := hr.cell 7
            have f0 := hr.frozen 7
            have HR : Hid (Row (wr.drew.setCell ⟨b, 7, none⟩ (.int .u32 (U (st.h + s.h)))) b T ((part st s (7 + 1)).map W ++ rest)) := hr.drew.set 7 _
            have HU : Hid (Upd (fun k => k = b) w (wr.drew.setCell ⟨b, 7, none⟩ (.int .u32 (U (st.h + s.h))))) := hu.drew.put b 7 (.inl rfl) _
            clear hr hu
            rw [show ((7 : Nat) : Int) = 7 from rfl]
            have ix : ∀ w, (Instr.index 112 (.agg #[.int .u32 (U s.a), .int .u32 (U s.b), .int .u32 (U s.c), .int .u32 (U s.d), .int .u32 (U s.e), .int .u32 (U s.f), .int .u32 (U s.g), .int .u32 (U s.h)]) (.int .i64 7)).run Tryd.prog w = .ok (.int .u32 (U s.h)) w := fun _ => by kernel_rfl
            go_wp2
            go_region
            go_wp2
            go_roundw
            case rel => exact ⟨7 + 1, by omega, rfl, HR.out, HU.out⟩
            case measure => simp [intOf]
        · obtain rfl : j = 8 := by omega
          have HR := Lib.hid hr
          have HU := Lib.hid hu
          clear hr hu hlt hj
          rw [show ((8 : Nat) : Int) = 8 from rfl]
          go_wp2
          go_end0
          exact ⟨rfl, by rw [HM.out]; exact HR.out, HU.out⟩
end Go.Proofs.YtgcionimhmbgeaaDoorR.MixW
