/-
  octet.Reader.Digests.
-/
import Derived.Test.YtcdgimapkbaboaaReadD
namespace Go.Proofs.Ytcdgimapkbaboaa.ReadG
open Go.RowKit Mem Width PutW WriterW ReaderW TakeW FlagW NamesW StrW TextsW RawW ReadB ReadT StepB RowW CopyW DigW ReadD
set_option linter.unusedVariables false
set_option linter.unusedSimpArgs false

theorem setCells_cons (w : World) (g o : Nat) (v : Value) (vs : List Value) : w.setCells g o (v :: vs) = (w.setCell ⟨g, o, none⟩ v).setCells g (o + 1) vs := rfl
theorem Row.setCells {g : Nat} {T : TypeId} : ∀ (vs : List Value) (o : Nat) (w : World) (cs : List Value), Row w g T cs → o + vs.length ≤ cs.length → Row (w.setCells g o vs) g T (splice cs o vs)
  | [], o, w, cs, h, _ => by simpa [World.setCells, splice] using h
  | v :: vs, o, w, cs, h, hl => by
    rw [setCells_cons]
    have := Row.setCells vs (o + 1) _ _ (h.set o v) (by rw [List.length_set]; simp at hl; omega)
    have e : splice (cs.set o v) (o + 1) vs = splice cs o (v :: vs) := by
      have ho : o < cs.length := by simp at hl; omega
      unfold splice
      rw [List.take_set, List.drop_set_of_lt (by omega), List.length_cons, show o + 1 + vs.length = o + (vs.length + 1) by omega]
      rw [List.take_succ_eq_append_getElem ho, List.set_append_right _ _ (by simp; omega)]
      simp [Nat.min_eq_left (Nat.le_of_lt ho)]
    rwa [e] at this
theorem upd_setCells {S : Nat → Prop} {g : Nat} : ∀ (vs : List Value) (o : Nat) (a w : World), (S g ∨ a.heap.size ≤ g) → Upd S a w → Upd S a (w.setCells g o vs)
  | [], _, _, _, _, h => h
  | v :: vs, o, a, w, hg, h => by rw [setCells_cons]; exact upd_setCells vs (o + 1) a _ hg (h.setCell hg v)

/-- n digests from place a on -/
def chunks (l : List UInt8) (a n : Nat) : List (List UInt8) := (List.range n).map fun i => (l.drop (a + 32 * i)).take 32
def dgsM (n : Int) (l : List UInt8) (s : Nat × Int) : List (List UInt8) × (Nat × Int) :=
  if s.2 = 0 then (if n < 0 ∨ (((l.length - s.1) / 32 : Nat) : Int) < n then ([], (s.1, 8)) else (chunks l s.1 n.toNat, (s.1 + 32 * n.toNat, 0))) else ([], s)
theorem chunks_len (l : List UInt8) (a n : Nat) : (chunks l a n).length = n := by simp [chunks]
theorem chunks_succ (l : List UInt8) (a n : Nat) : chunks l a (n + 1) = chunks l a n ++ [(l.drop (a + 32 * n)).take 32] := by simp [chunks, List.range_succ]
theorem chunks_32 (l : List UInt8) (a n : Nat) (h : a + 32 * n ≤ l.length) : ∀ d ∈ chunks l a n, d.length = 32 := by
  intro d hd
  obtain ⟨i, hi, rfl⟩ := List.mem_map.1 hd
  have := List.mem_range.1 hi
  simp
  omega
theorem cat_chunks (l : List UInt8) (a n : Nat) (h : a + 32 * n ≤ l.length) : cat (chunks l a n) = (l.drop a).take (32 * n) := by
  induction n with
  | zero => simp [chunks, cat]
  | succ n ih =>
    rw [chunks_succ, cat_append, ih (by omega)]
    have e : (l.drop a).take (32 * (n + 1)) = (l.drop a).take (32 * n) ++ ((l.drop a).drop (32 * n)).take 32 := by
      rw [show 32 * (n + 1) = 32 * n + 32 by omega, List.take_add]
    rw [e, List.drop_drop]
    simp [cat]

/-- the cells while the digests are taken -/
def gsub (l : List UInt8) (a k N : Nat) : List UInt8 := (l.drop a).take (32 * k) ++ List.replicate (32 * (N - k)) 0
theorem gsub_len (l : List UInt8) (a k N : Nat) (h : a + 32 * N ≤ l.length) (hk : k ≤ N) : (gsub l a k N).length = 32 * N := by simp [gsub]; omega
theorem gsub_splice (l : List UInt8) (a k N : Nat) (h : a + 32 * N ≤ l.length) (hk : k < N) :
    splice ((gsub l a k N).map u8) (k * 32) (((l.drop (a + 32 * k)).take 32).map u8) = (gsub l a (k + 1) N).map u8 := by
  have hl : ((l.drop a).take (32 * k)).length = 32 * k := by simp; omega
  have hd : ((l.drop (a + 32 * k)).take 32).length = 32 := by simp; omega
  have hn : ((l.drop a).take (32 * k)).drop (32 * k + 32) = [] := List.drop_eq_nil_of_le (by omega)
  unfold splice gsub
  rw [List.length_map, hd, ← List.map_take, ← List.map_drop, ← List.map_append, ← List.map_append]
  congr 1
  rw [show k * 32 = 32 * k by omega, List.take_append_of_le_length (by omega), List.take_of_length_le (by omega), List.drop_append, hl,
    hn, List.nil_append, List.drop_replicate, show 32 * (k + 1) = 32 * k + 32 by omega, List.take_add, List.drop_drop]
  rw [List.append_assoc]
  congr 3
  omega

/-- digests in memory of their own -/
def OwnD (r : List (List UInt8) × (Nat × Int)) (b : Nat) (v : Value) (l : List UInt8) (w : World) (e : Ending) (w' : World) : Prop :=
  ∃ ao cap, e = .returned (.slice ao r.1.length cap) ∧ w'.ownsRow w.heap.size 73 32 (.slice ao r.1.length cap) r.1.length ((cat r.1).map u8) ∧ (∀ d ∈ r.1, d.length = 32) ∧ Rd w' b v l r.2 ∧ Upd (fun k => k = b) w w'

theorem infoD : (Try.prog.info? 73).map (fun i => (i.zero, i.size, i.bytes)) = some (some (.agg A32), 32, 32) := by kernel_rfl
theorem made_zero (N : Nat) : madeCells (Value.agg A32).cells (N * 32) = ((List.replicate (32 * N) (0 : UInt8)).map u8).toArray := by
  apply Array.toList_inj.1
  apply List.ext_getElem?
  intro i
  rw [List.map_replicate, List.getElem?_replicate]
  rcases Nat.lt_or_ge i (32 * N) with h | h
  · rw [if_pos h]
    have hz : ∀ j, j < 32 → A32[j]! = Mem.u8 0 := by
      intro j hj
      have e : A32 = (List.replicate 32 (Mem.u8 0)).toArray := by unfold A32; rw [List.map_replicate]
      rw [e, List.getElem!_toArray, List.getElem!_eq_getElem?_getD, List.getElem?_replicate, if_pos hj]
      rfl
    have h2 : i % 32 < 32 := Nat.mod_lt _ (by decide)
    have := hz (i % 32) h2
    have e : (Value.agg A32).cells = A32 := rfl
    have e2 : A32.size = 32 := by simp [A32]
    rw [e]
    simp [madeCells, show i < N * 32 by omega, e2, this]
  · rw [if_neg (by omega)]
    simp [madeCells, show N * 32 ≤ i by omega]
theorem there_row {w : World} {g : Nat} {T : TypeId} {cs : List Value} (h : Row w g T cs) (o n : Nat) (hn : o + n ≤ cs.length) : w.there g o n := fun j hj => by
  rw [h.cell, h.frozen, List.getElem?_eq_getElem (by omega)]
  exact ⟨rfl, rfl⟩
/-- while the digests are taken -/
def LDg (l : List UInt8) (a N b : Nat) (v : Value) (G : Nat) (w : World) (g : Nat) (i : Value) (wr : World) : Prop :=
  ∃ k, k + g = N ∧ i = .int .i64 k ∧ Row wr G 73 ((gsub l a k N).map Mem.u8) ∧ Rd wr b v l (a + 32 * k, 0) ∧ Upd (fun k => k = b) w wr

set_option maxHeartbeats 600000 in
set_option maxRecDepth 100000 in
theorem rdigests_any (n : Int) (b : Nat) (v : Value) (l : List UInt8) (s : Nat × Int) (w : World) (hr : Rd w b v l s) (hl : l.length ≤ 140737488355328) :
    Calls Try.prog 73 #[.pointer (some ⟨b, 0, none⟩), .int .i64 n] w (OwnD (dgsM n l s) b v l w) := by
  have hp := hr.2.2
  obtain ⟨a, y⟩ := s
  simp only at hp
  have Hr := Lib.hid hr
  have c2 : w.cell? ⟨b, 2, none⟩ = some (.int .i64 y) := hr.c2
  have f2 := hr.f 2
  have hblt := lt_of_block hr.1
  clear hr
  by_cases hy : y = 0
  · subst hy
    have HL := Lib.hid (left_any b v l (a, 0) w Hr.out hl)
    simp only at HL
    obtain ⟨q, hq⟩ : ∃ x : Nat, x = l.length - a := ⟨_, rfl⟩
    have hq' : ((l.length : Int) - (a : Int)) = (q : Int) := by omega
    rw [hq'] at HL
    have eq32 : (q : Int).tdiv 32 = ((q / 32 : Nat) : Int) := by rw [Int.tdiv_eq_ediv_of_nonneg (by omega)]; rfl
    by_cases hn : n < 0 ∨ ((q / 32 : Nat) : Int) < n
    · have HM : Hid (dgsM n l (a, 0) = ([], (a, 8))) := by show _ = _; unfold dgsM; rw [if_pos rfl]; simp only; rw [← hq, if_pos hn]
      have HP : Hid (∀ w', Rd w' b v l (a, 8) → Upd (fun k => k = b) w w' → OwnD (dgsM n l (a, 0)) b v l w (.returned (.slice none 0 0)) w') := fun w' h1 h2 => by
        rw [HM.out]
        exact ⟨none, 0, rfl, World.ownsRow_nil _ _ _ 32, by simp, h1, h2⟩
      by_cases h0 : n < 0
      · have d0 : decide (n < 0) = true := decide_eq_true h0
        have HP1 := Lib.hid (HP.out _ (Hr.out.setWhy 8) (put1 (Upd.refl _ _) _ _))
        clear hn hq hq'
        go_enter Try.func73, Try.ntmps73
        go_wp2
        go_ret
        exact HP1.out
      · have d0 : decide (n < 0) = false := decide_eq_false h0
        have h1 : ((q / 32 : Nat) : Int) < n := by omega
        have HP1 := Lib.hid (HP.out _ (Hr.out.drew.setWhy 8) (put1 (Upd.refl _ _).drew _ _))
        obtain ⟨q32, hq32⟩ : ∃ x : Nat, x = q / 32 := ⟨_, rfl⟩
        have b32 : (q32 : Int) ≤ 140737488355328 := by omega
        rw [← hq32] at eq32 h1
        have d1 : decide ((q32 : Int) < n) = true := decide_eq_true h1
        have w32 : wrap64 (q32 : Int) = (q32 : Int) := by unfold wrap64; omega
        clear b32
        clear hn hq hq' hq32
        go_enter Try.func73, Try.ntmps73
        go_wp2_with (go_at_call 22; refine HL.out.mono ?_; rintro e w' ⟨rfl, rfl⟩)
        go_ret
        exact HP1.out
    · obtain ⟨N, rfl⟩ := Int.eq_ofNat_of_zero_le (show 0 ≤ n by omega)
      have hN : a + 32 * N ≤ l.length := by omega
      have HM : Hid (dgsM (N : Int) l (a, 0) = (chunks l a N, (a + 32 * N, 0))) := by show _ = _; unfold dgsM; rw [if_pos rfl]; simp only; rw [← hq, if_neg hn]; rfl
      have d0 : decide ((N : Int) < 0) = false := decide_eq_false (by omega)
      obtain ⟨q32, hq32⟩ : ∃ x : Nat, x = q / 32 := ⟨_, rfl⟩
      have b32 : (q32 : Int) ≤ 140737488355328 := by omega
      rw [← hq32] at eq32 hn
      have W32 : Hid (wrap64 (q32 : Int) = (q32 : Int)) := by show _ = _; unfold wrap64; omega
      clear b32
      have d1 : decide (q32 < N) = false := decide_eq_false (by omega)
      obtain ⟨i0, hi, hz0, hz1, hz2⟩ := info_parts infoD
      obtain ⟨M, hM⟩ : ∃ M, M = ((gsub l a 0 N).map Mem.u8).toArray := ⟨_, rfl⟩
      have hMM : madeCells (Value.agg A32).cells (N * 32) = M := by
        rw [made_zero, hM]
        simp [gsub]
      have hmk : ∀ w : World, (Instr.makeSlice 51 (.int .i64 (N : Int)) (.int .i64 (N : Int))).run Try.prog w = .ok (.slice (some ⟨w.heap.size, 0, none⟩) N N) (w.alloc (.cells M 73)) := by
        intro w
        have := run_make (P := Try.prog) w 51 73 i0 (.agg A32) Try.underlying51 hi hz0 .i64 .i64 (N : Int) (N : Int) (by omega) (Int.le_refl _) (by rw [hz2]; omega) (by omega)
        rw [hz1, Int.toNat_natCast, hMM] at this
        exact this
      have HR0 : Hid (Row (w.alloc (.cells M 73)) w.heap.size 73 ((gsub l a 0 N).map Mem.u8)) := by
        show Row _ _ _ _
        rw [hM]; exact Row.new w _ _
      have HRd0 : Hid (Rd (w.alloc (.cells M 73)) b v l (a + 32 * 0, 0)) := Hr.out.upd ((Upd.refl (fun _ => False) w).alloc _) id (fun _ _ => id)
      have HU0 : Hid (Upd (fun k => k = b) w (w.alloc (.cells M 73))) := (Upd.refl _ w).alloc _
      have hN63 : (N : Int) ≤ 140737488355328 := by omega
      have HN := Lib.hid hN
      have hvl : ∀ k, own v k → k < w.heap.size := fun k hk => (Hr.out.2.1.lt k hk).2
      have Hvl := Lib.hid hvl
      have w32 := W32.out
      clear hvl hN hp
      clear hi hz0 hz1 hz2 hM hMM hn hq hq' hq32
      go_enter Try.func73, Try.ntmps73
      go_wp2_with (go_at_call 22; refine HL.out.mono ?_; rintro e w' ⟨rfl, rfl⟩)
      rw [w32]
      clear w32
      go_loopg [6, 28] N (fun g s6 i wr => LDg l a N b v w.heap.size w g i wr)
      case atStart => exact ⟨0, by omega, rfl, HR0.out.drew, HRd0.out.drew, HU0.out.drew⟩
      case round =>
        obtain ⟨k, hkg, rfl, hrow, hrd, hu⟩ := hrel
        cases gk with
        | zero =>
          obtain rfl : k = N := by omega
          have HP : Hid (OwnD (dgsM (k : Int) l (a, 0)) b v l w (.returned (.slice (some ⟨w.heap.size, 0, none⟩) k k)) wr) := by
            show OwnD _ _ _ _ _ _ _
            rw [HM.out]
            refine ⟨some ⟨w.heap.size, 0, none⟩, k, by rw [chunks_len], ?_, chunks_32 l a k HN.out, hrd, hu⟩
            rw [chunks_len, cat_chunks l a k HN.out]
            have hl2 : ((l.drop a).take (32 * k)).length = 32 * k := by have := HN.out; simp; omega
            have e : gsub l a k k = (l.drop a).take (32 * k) := by simp [gsub]
            rw [e] at hrow
            have hN63' : k ≤ 140737488355328 := by omega
            refine ⟨by rw [List.length_map, hl2]; omega, .inr ⟨w.heap.size, k, _, rfl, Nat.le_refl _, hrow, Nat.le_refl _, by unfold maxLen; omega, by rw [List.size_toArray, List.length_map, hl2]; omega, ?_⟩⟩
            exact List.take_of_length_le (by rw [List.length_map, hl2]; omega)
          clear hrow hrd hu
          go_wp2
          go_ret
          exact HP.out
        | succ g =>
          have hkI : (k : Int) < (N : Int) := by omega
          have HD := Lib.hid (rdigest_any b v l (a + 32 * k, 0) wr hrd hl)
          have HU := Lib.hid hu
          have HRow := Lib.hid hrow
          have Hkg := Lib.hid hkg
          have hx32 : ((l.drop (a + 32 * k)).take 32).length = 32 := by have := HN.out; simp; omega
          have hn32 : Hid (nextM 32 l (a + 32 * k, 0) = ((l.drop (a + 32 * k)).take 32, (a + 32 * k + 32, 0))) := by
            have := HN.out
            show _ = _
            unfold nextM
            rw [if_pos rfl]
            simp only
            rw [if_neg (by omega)]
            rfl
          have hp32 : Hid (pad ((l.drop (a + 32 * k)).take 32) = (l.drop (a + 32 * k)).take 32) := by
            show _ = _
            unfold pad
            rw [hx32]
            simp
          clear hx32
          rw [hn32.out] at HD
          simp only at HD
          rw [hp32.out] at HD
          obtain ⟨Y, hY⟩ : ∃ Y, Y = (((l.drop (a + 32 * k)).take 32).map u8).toArray := ⟨_, rfl⟩
          rw [← hY] at HD
          have HY1 : Hid (Y.all (·.oneCell') = true) := by show _ = _; rw [hY]; simpa using one_of ((l.drop (a + 32 * k)).take 32)
          have hYn : Y.size = 32 := by rw [hY]; have := HN.out; simp; omega
          have HYs : Hid ((Try.prog.info? 73).map (·.size) = some Y.size) := by show _ = _; rw [size32, hYn]
          have HY := Lib.hid hY
          have HYn := Lib.hid hYn
          have hG := hrow.lt
          clear hrow hrd hu hY hYn hkg
          have HG := Lib.hid hG
          clear hG
          go_wp2_with (first
            | (go_at_call 92; refine HD.out.mono ?_; rintro e w3 ⟨rfl, g1, g2⟩; have HG1 := Lib.hid g1; have HG2 := Lib.hid g2; have HR3 := Lib.hid (HRow.out.upd g2 (by omega)); have HT := Lib.hid (there_row HR3.out (k * 32) Y.size (by rw [List.length_map, gsub_len l a k N HN.out (by omega), HYn.out]; omega)); clear g1 g2)
            | ((with_reducible refine wpList_store_mid (op := ⟨none, _, _, _, _, _⟩) ?_ 73 (.tmp 35) (.tmp 34) ?_ w.heap.size (k * 32) Y ?_ ?_ HT.out HYs.out HY1.out ?_); rfl; rfl; rfl; rfl))
          have HF : Hid (LDg l a N b v w.heap.size w g (.int .i64 ((k + 1 : Nat) : Int)) (w3.setCells w.heap.size (k * 32) Y.toList)) := by
            have hYl : Y.toList = ((l.drop (a + 32 * k)).take 32).map Mem.u8 := by rw [HY.out]
            rw [hYl]
            refine ⟨k + 1, by have := Hkg.out; omega, rfl, ?_, ?_, ?_⟩
            · have := Row.setCells (((l.drop (a + 32 * k)).take 32).map Mem.u8) (k * 32) _ _ HR3.out (by rw [List.length_map, List.length_map, gsub_len l a k N HN.out (by omega)]; have := HN.out; simp; omega)
              rwa [gsub_splice l a k N HN.out (by omega)] at this
            · have h1 : Rd w3 b v l (a + 32 * (k + 1), 0) := HG1.out
              exact h1.upd (upd_setCells (S := fun j => j = w.heap.size) _ _ _ _ (.inl rfl) (Upd.refl _ _)) (by omega) (fun j hj e => by have := Hvl.out j hj; omega)
            · exact upd_setCells _ _ _ _ (.inr (Nat.le_refl _)) (HU.out.trans (HG2.out.mono fun j _ e => .inl e))
          clear HR3 HT HG1 HG2 HU HRow HD
          go_roundg g
          case rel => exact HF.out
          case measure => omega
  · have HM : Hid (dgsM n l (a, y) = ([], (a, y))) := by show _ = _; unfold dgsM; rw [if_neg hy]
    have HP : Hid (OwnD (dgsM n l (a, y)) b v l w (.returned (.slice none 0 0)) w) := by
      show OwnD _ _ _ _ _ _ _
      rw [HM.out]
      exact ⟨none, 0, rfl, World.ownsRow_nil _ _ _ 32, by simp, Hr.out, Upd.refl _ _⟩
    have hyb : (y == 0) = false := by simpa using hy
    clear hy
    go_enter Try.func73, Try.ntmps73
    go_wp2
    go_ret
    exact HP.out
end Go.Proofs.Ytcdgimapkbaboaa.ReadG
