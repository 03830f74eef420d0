/-
  Rows of digests: octet.Writer.Digests.
-/
import Derived.Test.YtcdgimapkbaboaaReadT
import Derived.Test.YtcdgimapkbaboaaStepB
import Derived.Test.YtcdgimapkbaboaaCopyW
import Derived.Test.YtcdgimapkbaboaaRawW
namespace Go.Proofs.Ytcdgimapkbaboaa.DigW
open Go.RowKit Mem Width PutW WriterW ReaderW TakeW FlagW NamesW StrW TextsW RawW ReadB ReadT StepB RowW CopyW
set_option linter.unusedVariables false
set_option linter.unusedSimpArgs false

/-- v is a slice of digests; what is read of it lies in blocks of O -/
def DgL (w : World) (v : Value) (ds : List (List UInt8)) (O : Nat → Prop) : Prop :=
  ∃ ao cap, v = .slice ao ds.length cap ∧ ds.length ≤ cap ∧ cap ≤ maxLen ∧ (∀ d ∈ ds, d.length = 32) ∧ (ao = none → ds.length = 0) ∧
    ∀ a, ao = some a → a.spot = none ∧ (0 < ds.length → O a.block) ∧ ∀ i, i < ds.length → w.rangeAt a.block (a.off + i * 32) ((ds.getD i []).map u8)
theorem range_upd' {S : Nat → Prop} {w w' : World} {b o : Nat} {cs : List Value} (h : w.rangeAt b o cs) (hu : Upd S w w') (hb : ¬ S b) : w'.rangeAt b o cs := fun j v hv => hu.cell (h j v hv) hb
theorem DgL.upd {S O : Nat → Prop} {w w' : World} {v : Value} {ds : List (List UInt8)} (h : DgL w v ds O) (hu : Upd S w w') (hd : ∀ k, O k → ¬ S k) : DgL w' v ds O := by
  obtain ⟨ao, cap, rfl, h1, h2, h3, h4, h5⟩ := h
  exact ⟨ao, cap, rfl, h1, h2, h3, h4, fun a ha => ⟨(h5 a ha).1, (h5 a ha).2.1, fun i hi => range_upd' ((h5 a ha).2.2 i hi) hu (hd _ ((h5 a ha).2.1 (by omega)))⟩⟩

def A32 : Array Value := ((List.replicate 32 (0 : UInt8)).map u8).toArray
theorem zero32 (w : World) : (zeroValue 73).run Try.prog w = .ok (.agg A32) w := by kernel_rfl
theorem size32 : (Try.prog.info? 73).map (·.size) = some 32 := by kernel_rfl
theorem sl_row (w : World) (g : Nat) (T : TypeId) (l : List UInt8) (C : Array Value) (n : Nat) (hn : n = l.length) (hm : n ≤ maxLen) (h : w.heap[g]? = some (.cells C T (0, 0))) (hC : C = (l.map u8).toArray) : Sl w (.slice (some ⟨g, 0, none⟩) n n) l := by
  subst hn hC
  refine ⟨_, _, rfl, Nat.le_refl _, hm, by simp, fun a ha => ?_⟩
  injection ha with ha
  subst ha
  refine ⟨rfl, fun i hi => ?_⟩
  rw [RowW.add_none, cell_of_row _ _ _ _ _ _ h]
  simp [hi, List.getD_eq_getElem?_getD]

set_option maxHeartbeats 2000000 in
set_option maxRecDepth 100000 in
theorem wdigests_any (b : Nat) (v p : Value) (l : List UInt8) (ds : List (List UInt8)) (O : Nat → Prop) (w : World) (hw : Wr w b v l) (hs : DgL w p ds O) (hO : ∀ k, O k → k < w.heap.size ∧ k ≠ b ∧ ¬ own v k) (hl : l.length + 32 * ds.length ≤ 140737488355300) :
    Calls Try.prog 65 #[.pointer (some ⟨b, 0, none⟩), p] w fun e w' => e = .returned (.tuple #[]) ∧ Grew b v l (cat ds) w w' := by
  have Hw := Lib.hid hw
  have Hs := Lib.hid hs
  have HO := Lib.hid hO
  obtain ⟨ao, cap, rfl, h1, h2, h3, h4, h5⟩ := hs
  obtain ⟨N, hN⟩ : ∃ x, x = ds.length := ⟨_, rfl⟩
  have HN := Lib.hid hN
  have H32 := Lib.hid h3
  rw [← hN] at hl h1 h4 Hs ⊢
  clear hw hO h2 h3 h5 hN
  go_enter Try.func65, Try.ntmps65
  go_wp2
  go_loopg [5, 8] N (fun g _ i wr => ∃ k : Nat, k + g = N ∧ i = .int .i64 k ∧ Grew b v l (cat (ds.take k)) w wr)
  case atStart => exact ⟨0, by omega, rfl, by simpa [cat] using Grew.refl Hw.out⟩
  case round =>
    obtain ⟨k, hkg, rfl, hg⟩ := hrel
    cases gk with
    | zero =>
      obtain rfl : k = N := by omega
      have HP : Hid (Grew b v l (cat ds) w wr) := by
        rw [HN.out, List.take_length] at hg
        exact hg
      clear hg
      go_wp2
      go_end0
      exact ⟨rfl, HP.out⟩
    | succ g =>
      have hkI : (k : Int) < (N : Int) := by omega
      obtain ⟨v1, ⟨hb, hown⟩, hu1, ho1⟩ := hg
      have hdg := Hs.out.upd hu1 (fun j hj h => h.elim (HO.out j hj).2.1 (HO.out j hj).2.2)
      obtain ⟨ao', cap', he, q1, q2, q3, q4, h5⟩ := hdg
      clear q1 q2 q3 q4
      rw [← HN.out] at he h5
      injection he with e1 e2 e3
      subst e1 e3
      clear e2
      obtain ⟨⟨pb, off, sp⟩, rfl⟩ : ∃ ad, ao = some ad := by
        cases ao with
        | some ad => exact ⟨ad, rfl⟩
        | none => have := h4 rfl; omega
      obtain ⟨hsp, _, h6⟩ := h5 _ rfl
      obtain rfl : sp = none := hsp
      have hrg := h6 k (by omega)
      simp only at hrg
      obtain ⟨d, hd⟩ : ∃ x, x = ds.getD k [] := ⟨_, rfl⟩
      rw [← hd] at hrg
      have hdl : d.length = 32 := by
        refine H32.out d ?_
        rw [hd, List.getD_eq_getElem?_getD, List.getElem?_eq_getElem (by rw [← HN.out]; omega)]
        exact List.getElem_mem _
      have HRg := Lib.hid hrg
      obtain ⟨Y, hY⟩ : ∃ Y, Y = (d.map Mem.u8).toArray := ⟨_, rfl⟩
      have HYs : Hid ((Try.prog.info? 73).map (·.size) = some (d.map Mem.u8).length) := by show _ = _; rw [size32]; simp [hdl]
      have HYs2 : Hid ((Try.prog.info? 73).map (·.size) = some Y.size) := by show _ = _; rw [size32, hY]; simp [hdl]
      have HYl : Hid (A32.size = Y.size) := by show _ = _; rw [hY]; simp [hdl, A32]
      have HY1 : Hid (Y.all (·.oneCell') = true) := by show _ = _; rw [hY]; simpa using one_of d
      have HY := Lib.hid hY
      have Hdl := Lib.hid hdl
      have Hd := Lib.hid hd
      have Hb := Lib.hid hb
      have Hown := Lib.hid hown
      have Hu := Lib.hid hu1
      have Ho := Lib.hid ho1
      have hz := zero32
      clear hb hown hu1 ho1 h5 h6 hrg hd hdl hY h4
      go_upto_region 3 with (first
        | ((with_reducible refine wpList_load_mid (op := ⟨some 11, _, _, _, _, _⟩) ?_ 73 (.tmp 10) ?_ pb (off + k * 32) ?_ (d.map Mem.u8) _ HRg.out Try.underlying73 ?_ HYs.out ?_); rfl; rfl; rfl; rfl; rw [← HY.out])
        | ((with_reducible refine wpList_store_new (o := ⟨none, .store 73 (.tmp 5) (.tmp 11), _, _, _, _⟩) ?_ _ (.tmp 5) (.tmp 11) ?_ wr.heap.size Y ?_ ?_ 73 A32 (heap_alloc_new _ _) HYs2.out HYl.out HY1.out ?_); rfl; rfl; rfl; rfl; intro w2 Hg2 Hu2))
      have hu2 : Upd (fun _ => False) wr w2 := ((Upd.refl _ wr).alloc _).trans (Hu2.out.mono fun j _ e => .inr (by omega))
      have hb2 : w2.heap[b]? = some (.cells #[v1] 85 (0, 0)) := (hu2.block b (lt_of_block Hb.out) id).trans Hb.out
      have c0 := cell_of_one hb2
      have f0 := free_of_one hb2
      have HOw : Hid (w2.drew.ownsRow 0 5 1 v1 (l ++ cat (ds.take k)).length ((l ++ cat (ds.take k)).map Mem.u8)) := own_upd Hown.out hu2.drew (fun _ _ => id)
      have HSl : Hid (Sl w2.drew (.slice (some ⟨wr.heap.size, 0, none⟩) 32 32) d) := sl_row w2.drew _ _ d Y 32 Hdl.out.symm (by unfold maxLen; omega) Hg2.out HY.out
      have Hb2 : Hid (w2.drew.heap[b]? = some (.cells #[v1] 85 (0, 0))) := hb2
      have HU2 : Hid (Upd (fun _ => False) wr w2.drew) := hu2.drew
      obtain ⟨L, hL⟩ : ∃ x, x = l ++ cat (ds.take k) := ⟨_, rfl⟩
      rw [← hL] at HOw
      have hLl : L.length = l.length + 32 * k := by
        rw [hL, List.length_append]
        congr 1
        have key : ∀ m, m ≤ ds.length → (cat (ds.take m)).length = 32 * m := by
          intro m
          induction m with
          | zero => intro _; simp [cat]
          | succ m ih =>
            intro hm
            rw [flat_take (by omega), List.length_append, ih (by omega), H32.out (ds.getD m []) (by rw [List.getD_eq_getElem?_getD, List.getElem?_eq_getElem (by omega)]; exact List.getElem_mem _)]
            omega
        exact key k (by rw [← HN.out]; omega)
      have HM1 : Hid (L.length + d.length ≤ maxLen) := by show _ ≤ _; rw [hLl, Hdl.out]; unfold maxLen; omega
      have HM2 : Hid (L.length + d.length ≤ 140737488355328) := by show _ ≤ _; rw [hLl, Hdl.out]; omega
      obtain ⟨M, hM⟩ : ∃ x, x = L.length + d.length := ⟨_, rfl⟩
      have HM := Lib.hid hM
      have HL := Lib.hid hL
      clear hu2 hb2 hL hLl hM Hu2 Hg2
      go_region_law ((refine step_append_bytes _ (by rfl) _ _ (by rfl) v1 L d (by rfl) HOw.out (.slice (some ⟨wr.heap.size, 0, none⟩) 32 32) (by rfl) HSl.out HM1.out HM2.out M HM.out ?_); intro ao3 cap3 w3 Hown3 Hg3 Ha3; have hb3 := one_kept Hb2.out (by decide) HOw.out (fun _ _ => rfl) (Nat.le_refl _) Hg3.out; have c3 := cell_of_one hb3; have f3 := free_of_one hb3)
      have HG : Hid (Grew b v l (cat (ds.take (k + 1))) w (w3.setCell ⟨b, 0, none⟩ (.slice ao3 M cap3))) := by
        have h1 := Grew.then Hu.out Ho.out (back (news := d) (nv := .slice ao3 M cap3) (n := M) Hb.out Hown.out (by rw [← HL.out]; exact HM.out) HU2.out (by have h := Hown3.out; rw [List.map_append, HL.out] at h; exact h) Hg3.out Ha3.out)
        rw [Hd.out, ← flat_take (by rw [← HN.out]; omega)] at h1
        exact h1
      clear Hown3 Hg3 Ha3 hb3 c3 f3 c0 f0 HOw HSl Hb2 HU2
      go_wp2
      go_roundg g
      case rel => exact ⟨k + 1, by omega, by go_num, HG.out⟩
      case measure => omega
end Go.Proofs.Ytcdgimapkbaboaa.DigW
